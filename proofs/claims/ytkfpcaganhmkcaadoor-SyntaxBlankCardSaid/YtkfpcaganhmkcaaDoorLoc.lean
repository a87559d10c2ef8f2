/-
  Package syntax: a line's thing that is being made in a variable of the call's own, while words are taken: L the variable, T its row that grows.
-/
import Derived.Test.YtkfpcaganhmkcaaDoorEnds
namespace Go.Proofs.YtkfpcaganhmkcaaDoor.Rd5
open Go.RowKit Api Hold Mem Syn WordM Tree

variable {w w' w1 w2 : World} {lo hi rb base N : Nat} {rc : RC} {v : Value} {l ws : List Wd} {row : Option Nat} {a : Tree.Act} {D D2 : List Rec} {p : Prog} {L T : Rec}
structure Loc (w : World) (base rb lo hi : Nat) (rc : RC) (a : Tree.Act) (D : List Rec) (p : Prog) (N : Nat) (ws : List Wd) (L T : Rec) : Prop where
  st : St w base rb lo hi rc a D p N ws
  ap : Apart w base (a.l ++ (L :: T :: D))
abbrev lrec (t : TypeId) (size lb : Nat) (cs : List Value) : Rec := ⟨t, size, .slice (some ⟨lb, 0, none⟩) 1 1, 1, cs⟩
theorem loc_start {t t2 : TypeId} {size s2 : Nat} {cs : List Value} (h : St w base rb lo hi rc a D p N ws) (hl : cs.length = size) :
    Loc (w.alloc (.cells cs.toArray t)) base rb lo hi rc a D p N ws (lrec t size w.heap.size cs) (Rec.empty t2 s2) := by
  have hF : Rec.on (w.alloc (.cells cs.toArray t)) base (lrec t size w.heap.size cs) := by
    refine ⟨by simpa using hl, .inr ⟨w.heap.size, 1, cs.toArray, rfl, h.high, heap_alloc_new w _, Nat.le_refl _, by unfold maxLen; omega, by simpa using hl, ?_⟩⟩
    rw [List.take_of_length_le (by simp [hl])]
  have h1 := add_row h.bld (fun k _ hk => heap_alloc_old w (.cells cs.toArray t) hk) hF (fun k hk => by simp [Value.ownBlock] at hk; omega)
  exact ⟨h.alloc _, by
    have := (ap_front h1).empty t2 s2
    have h2 : Apart (w.alloc (.cells cs.toArray t)) base (a.l ++ D ++ []) := by
      have := (ap_front h1).tail
      simpa using this
    exact this.perm (by
      have e1 : (Rec.empty t2 s2 :: lrec t size w.heap.size cs :: (a.l ++ D)).Perm (lrec t size w.heap.size cs :: Rec.empty t2 s2 :: (a.l ++ D)) := List.Perm.swap _ _ _
      refine e1.trans ?_
      refine (List.Perm.cons _ List.perm_middle.symm).trans ?_
      exact List.perm_middle.symm)⟩
theorem loc_sub (h : Apart w base (a.l ++ (L :: T :: D))) : Apart w base (a.l ++ D) := h.sub (List.Sublist.append (List.Sublist.refl _) ((List.sublist_cons_self _ _).trans (List.sublist_cons_self _ _)))
theorem loc_sub1 (h : Apart w base (a.l ++ (L :: T :: D))) : Apart w base (a.l ++ (T :: D)) := h.sub (List.Sublist.append (List.Sublist.refl _) (List.sublist_cons_self _ _))
theorem Loc.onT (h : Loc w base rb lo hi rc a D p N ws L T) : T.on w base := h.ap.1 T (by simp)
theorem Loc.onL (h : Loc w base rb lo hi rc a D p N ws L T) : L.on w base := h.ap.1 L (by simp)
theorem Loc.took (h : Loc w base rb lo hi rc a D p N ws L T) (hT : OwnR w' rb { rc with rest := v }) (hW : Ws lo hi w' v l) (hg : w.grownBy w' (some rb)) : Loc w' base rb lo hi { rc with rest := v } a D p N l L T :=
  ⟨h.st.took hT hW hg, ap_same h.ap fun k hk hlt => hg.block k hlt (by have := h.st.mid; intro e; injection e with e; omega)⟩
theorem Loc.sameH (h : Loc w base rb lo hi rc a D p N ws L T) (hs : SameH w w') : Loc w' base rb lo hi rc a D p N ws L T :=
  ⟨hs.st h.st, ap_same h.ap fun k _ _ => by rw [hs.1]⟩
theorem Loc.drew (h : Loc w base rb lo hi rc a D p N ws L T) : Loc w.drew base rb lo hi rc a D p N ws L T := h.sameH (SameH.refl w).drew
theorem loc_beside {t : TypeId} {cs news : List Value} {v' : Value} (h : Loc w base rb lo hi rc a D p N ws L T) (G : Grew (w.alloc (.cells cs.toArray t)) w' base T v' news) : Beside base rb w w' :=
  ((Beside.refl base rb w).grow (World.grownBy_alloc w _ none) h.st.high (by simp)).grow G.grow h.st.high fun _ hk => .inl (h.onT.lt hk).1
theorem loc_own {t : TypeId} {cs news : List Value} {v' : Value} (h : Loc w base rb lo hi rc a D p N ws L T) (G : Grew (w.alloc (.cells cs.toArray t)) w' base T v' news) : OwnR w' rb rc := by
  have hlt := h.st.own.lt
  refine ((G.grow.block rb (by simp; omega) (fun e => ?_)).trans (heap_alloc_old w _ hlt)).trans h.st.own
  have := (h.onT.lt e.symm).1
  have := h.st.mid
  omega
theorem Loc.grow {t : TypeId} {cs news : List Value} {v' : Value} (h : Loc w base rb lo hi rc a D p N ws L T) (G : Grew (w.alloc (.cells cs.toArray t)) w' base T v' news) : Loc w' base rb lo hi rc a D p N ws L (grew T v' news) := by
  have h1 : Apart w' base (a.l ++ (L :: grew T v' news :: D)) := by
    have := ap_grow (A := a.l ++ [L]) (B := D) (r := T) (by simpa using ap_same h.ap (w' := w.alloc (.cells cs.toArray t)) fun k _ hk => heap_alloc_old w _ hk) G
    simpa using this
  exact ⟨h.st.finish (loc_beside h G) (loc_own h G) ⟨loc_sub h1, h.st.bld.sh, h.st.bld.few⟩ h.st.ssa h.st.c h.st.g h.st.e h.st.u rfl, h1⟩
theorem Loc.put {lb size : Nat} {t : TypeId} {cs : List Value} (h : Loc w base rb lo hi rc a D p N ws (lrec t size lb cs) T) (q : Nat) (u : Value) : Loc (w.setCell ⟨lb, q, none⟩ u) base rb lo hi rc a D p N ws (lrec t size lb (cs.set q u)) T := by
  have h1 := ap_store (A := a.l) (B := T :: D) (r := lrec t size lb cs) (q := q) (u := u) h.ap rfl
  have hb : base ≤ lb := (h.onL.lt (k := lb) rfl).1
  have hne : lb ≠ rb := by have := h.st.mid; omega
  exact ⟨h.st.finish ((Beside.refl base rb w).set (p := ⟨lb, q, none⟩) (.inl hb) u) (own_set h.st.own hne u) ⟨loc_sub h1, h.st.bld.sh, h.st.bld.few⟩ h.st.ssa h.st.c h.st.g h.st.e h.st.u rfl, h1⟩
/-- the variable's cells. -/
theorem Loc.cell {lb size : Nat} {t : TypeId} {cs : List Value} (h : Loc w base rb lo hi rc a D p N ws (lrec t size lb cs) T) {j : Nat} {u : Value} (hj : cs[j]? = some u) : w.cell? ⟨lb, j, none⟩ = some u ∧ w.frozen? ⟨lb, j, none⟩ = false ∧ lb < w.heap.size :=
  ⟨h.onL.cell rfl hj, h.onL.thaw rfl j, (h.onL.lt (k := lb) rfl).2⟩
/-- .. behind the growth of its row. -/
theorem Loc.cell_grew {lb size : Nat} {t t2 : TypeId} {cs cs2 news : List Value} {v' : Value} (h : Loc w base rb lo hi rc a D p N ws (lrec t size lb cs) T) (G : Grew (w.alloc (.cells cs2.toArray t2)) w' base T v' news) {j : Nat} {u : Value} (hj : cs[j]? = some u) : w'.cell? ⟨lb, j, none⟩ = some u ∧ w'.frozen? ⟨lb, j, none⟩ = false ∧ lb < w'.heap.size :=
  (h.grow G).cell hj

/-- All words, taken one thing behind the other. -/
def takeAll {β : Type} (take : List Wd → Option (β × List Wd)) : Nat → List Wd → Option (List β)
  | _, [] => some []
  | 0, _ :: _ => none
  | n + 1, x :: l => match take (x :: l) with | none => none | some (y, l) => (takeAll take n l).map (y :: ·)
/-- how many words are left. -/
def restLen (rb : Nat) (w : World) : Nat := match w.cell? ⟨rb, 8, none⟩ with | some (.slice _ n _) => n | _ => 0
theorem restLen_of (h : St w base rb lo hi rc a D p N ws) : restLen rb w = ws.length := by
  unfold restLen
  rw [h.cells.2.2.2.2.2.2.2.2.1]
  obtain ⟨A, n, cap, b, off, e, hn, _⟩ := h.wds
  rw [e]
  exact hn
theorem rest_form (h : St w base rb lo hi rc a D p N ws) : ∃ A cap, rc.rest = .slice A ws.length cap ∧ w.cell? ⟨rb, 8, none⟩ = some (.slice A ws.length cap) := by
  obtain ⟨A, n, cap, b, off, e, hn, _⟩ := h.wds
  exact ⟨A, cap, by rw [e, hn], by rw [h.cells.2.2.2.2.2.2.2.2.1, e, hn]⟩

/-- 'append' at a step of a region that draws, where the element was laid before anything else in it. -/
theorem step_grow_d {P : Program} {ops : Array Oper} {o : Oper} {w0 : World} {K : Go.Act → World → Prop} {Q : Exit → Go.Act → World → Prop} {E : Prop} {b : Go.Act} (hg : o.guard = none) (s x : Operand) (t : TypeId)
    (hop : o.op = Op.call { callee := Callee.builtin Builtin.append, args := #[s, x], argTypes := #[t, t] })
    (base : Nat) (e : TypeId) (i : TypeInfo) (z : Value) (size bytes : Nat) (ht : P.underlying t = some (.slice e)) (hi : P.info? e = some i) (hz : i.zero = some z)
    (hsize : i.size = size) (hby : i.bytes = bytes) (hzs : z.cells.size = size) (hsz : 0 < size) (hbb : bytes ≤ 65536)
    (r : Rec) (hre : r.t = e) (hrs : r.size = size) (hs : b.eval s = r.v) (hown : r.on w0.drew base)
    (news : List Value) (k : Nat) (hk : k = w0.heap.size) (hx : b.eval x = .slice (some ⟨k, 0, none⟩) 1 1) (hl : news.length = size) (h1 : ∀ u ∈ news, u.oneCell' = true)
    (hN : r.n < 1073741824) (hbase : base ≤ w0.heap.size)
    (hK : ∀ g cap w', Grew (w0.drew.alloc (.cells news.toArray e)) w' base r (.slice (some ⟨g, 0, none⟩) (r.n + 1) cap) news → K (b.put o.dst (.slice (some ⟨g, 0, none⟩) (r.n + 1) cap)) w') :
    if Region.wanted o (yielded ops b.tmps) = true then Oper.wp P o b (w0.alloc (.cells news.toArray e)).drew K Q else E :=
  step_grow (w0 := w0.drew) hg s x t hop base e i z size bytes ht hi hz hsize hby hzs hsz hbb r hre hrs hs hown news k hk hx hl h1 hN hbase hK
theorem row_val {r : Rec} {n : Nat} (h : r.on w base) (hn : r.n = n) : ∃ A c, r.v = .slice A n c := by
  obtain ⟨A, c, e⟩ := h.form
  exact ⟨A, c, by rw [e, hn]⟩
theorem inner_end2 {r : Rec} {v' : Value} {news : List Value} {t : TypeId} {cs : List Value} {a2 : Tree.Act} {D2 : List Rec} {p2 : Prog} {M g q : Nat} {w3 : World} (hT : St w1 base rb lo hi rc a D p N l) (h0 : Beside base rb w w1) (hr : r ∈ a.l) (G : Grew (w1.alloc (.cells cs.toArray t)) w2 base r v' news)
    (hb : Build (w2.setCell ⟨g, q, none⟩ v') base a2 D2 p2 M) (hgb : base ≤ g) (h3 : (w2.setCell ⟨g, q, none⟩ v').grownBy w3 (some rb)) : Beside base rb w w3 ∧ Beside base rb w1 w3 ∧ Build w3 base a2 D2 p2 M := by
  obtain ⟨_, b2, b3⟩ := inner_end (w := w1) hT (gr_refl w1 (some rb)) hT.high hr G hb hgb h3
  exact ⟨h0.trans b2, b2, b3⟩
theorem SameH.beside (h : SameH w w') : Beside base rb w w' := ⟨h.2.1, h.2.2.1, h.2.2.2, by rw [h.1]; exact Nat.le_refl _, fun k _ _ => by rw [h.1]⟩
end Go.Proofs.YtkfpcaganhmkcaaDoor.Rd5
