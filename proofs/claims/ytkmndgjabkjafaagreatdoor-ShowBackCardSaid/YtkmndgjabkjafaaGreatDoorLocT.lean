/-
  Package syntax: a line's thing that is being made in a variable of the call's own, while words are taken: L the variable, T its row that grows.
  What a program that is being built in memory is behind a phi, an instruction, a frame, an object. No function of a program is named here.
-/
import Derived.Test.YtkmndgjabkjafaaGreatDoorEnds
import Derived.Test.YtkmndgjabkjafaaGreatDoorRdrT
namespace Go.Proofs.YtkmndgjabkjafaaGreatDoor.Rd5
open Go.RowKit Api Hold Mem Syn WordM Tree

variable {w w' w1 w2 : World} {lo hi rb base N : Nat} {rc : RC} {v : Value} {l ws : List Wd} {row : Option Nat} {a : Tree.Act} {D D2 : List Rec} {p : Prog} {L T : Rec}
structure Loc (w : World) (base rb lo hi : Nat) (rc : RC) (a : Tree.Act) (D : List Rec) (p : Prog) (N : Nat) (ws : List Wd) (L T : Rec) : Prop where
  st : St w base rb lo hi rc a D p N ws
  ap : Apart w base (a.l ++ (L :: T :: D))
abbrev lrec (t : TypeId) (size lb : Nat) (cs : List Value) : Rec := ⟨t, size, .slice (some ⟨lb, 0, none⟩) 1 1, 1, cs⟩
theorem loc_start {t t2 : TypeId} {size s2 : Nat} {cs : List Value} (h : St w base rb lo hi rc a D p N ws) (hl : cs.length = size) :
    Loc (w.alloc (.cells cs.toArray t)) base rb lo hi rc a D p N ws (lrec t size w.heap.size cs) (Rec.empty t2 s2) := by
  have hF : Rec.on (w.alloc (.cells cs.toArray t)) base (lrec t size w.heap.size cs) := by
    refine ⟨by simpa using hl, .inr ⟨w.heap.size, 1, cs.toArray, rfl, h.high, heap_alloc_new w _, Nat.le_refl _, by unfold maxLen; omega, by simpa using hl, ?_⟩⟩
    rw [List.take_of_length_le (by simp [hl])]
  have h1 := add_row h.bld (fun k _ hk => heap_alloc_old w (.cells cs.toArray t) hk) hF (fun k hk => by simp [Value.ownBlock] at hk; omega)
  exact ⟨h.alloc _, by
    have := (ap_front h1).empty t2 s2
    have h2 : Apart (w.alloc (.cells cs.toArray t)) base (a.l ++ D ++ []) := by
      have := (ap_front h1).tail
      simpa using this
    exact this.perm (by
      have e1 : (Rec.empty t2 s2 :: lrec t size w.heap.size cs :: (a.l ++ D)).Perm (lrec t size w.heap.size cs :: Rec.empty t2 s2 :: (a.l ++ D)) := List.Perm.swap _ _ _
      refine e1.trans ?_
      refine (List.Perm.cons _ List.perm_middle.symm).trans ?_
      exact List.perm_middle.symm)⟩
theorem loc_sub (h : Apart w base (a.l ++ (L :: T :: D))) : Apart w base (a.l ++ D) := h.sub (List.Sublist.append (List.Sublist.refl _) ((List.sublist_cons_self _ _).trans (List.sublist_cons_self _ _)))
theorem loc_sub1 (h : Apart w base (a.l ++ (L :: T :: D))) : Apart w base (a.l ++ (T :: D)) := h.sub (List.Sublist.append (List.Sublist.refl _) (List.sublist_cons_self _ _))
theorem Loc.onT (h : Loc w base rb lo hi rc a D p N ws L T) : T.on w base := h.ap.1 T (by simp)
theorem Loc.onL (h : Loc w base rb lo hi rc a D p N ws L T) : L.on w base := h.ap.1 L (by simp)
theorem Loc.took (h : Loc w base rb lo hi rc a D p N ws L T) (hT : OwnR w' rb { rc with rest := v }) (hW : Ws lo hi w' v l) (hg : w.grownBy w' (some rb)) : Loc w' base rb lo hi { rc with rest := v } a D p N l L T :=
  ⟨h.st.took hT hW hg, ap_same h.ap fun k hk hlt => hg.block k hlt (by have := h.st.mid; intro e; injection e with e; omega)⟩
theorem Loc.sameH (h : Loc w base rb lo hi rc a D p N ws L T) (hs : SameH w w') : Loc w' base rb lo hi rc a D p N ws L T :=
  ⟨hs.st h.st, ap_same h.ap fun k _ _ => by rw [hs.1]⟩
theorem Loc.drew (h : Loc w base rb lo hi rc a D p N ws L T) : Loc w.drew base rb lo hi rc a D p N ws L T := h.sameH (SameH.refl w).drew
theorem loc_beside {t : TypeId} {cs news : List Value} {v' : Value} (h : Loc w base rb lo hi rc a D p N ws L T) (G : Grew (w.alloc (.cells cs.toArray t)) w' base T v' news) : Beside base rb w w' :=
  ((Beside.refl base rb w).grow (World.grownBy_alloc w _ none) h.st.high (by simp)).grow G.grow h.st.high fun _ hk => .inl (h.onT.lt hk).1
theorem loc_own {t : TypeId} {cs news : List Value} {v' : Value} (h : Loc w base rb lo hi rc a D p N ws L T) (G : Grew (w.alloc (.cells cs.toArray t)) w' base T v' news) : OwnR w' rb rc := by
  have hlt := h.st.own.lt
  refine ((G.grow.block rb (by simp; omega) (fun e => ?_)).trans (heap_alloc_old w _ hlt)).trans h.st.own
  have := (h.onT.lt e.symm).1
  have := h.st.mid
  omega
theorem Loc.grow {t : TypeId} {cs news : List Value} {v' : Value} (h : Loc w base rb lo hi rc a D p N ws L T) (G : Grew (w.alloc (.cells cs.toArray t)) w' base T v' news) : Loc w' base rb lo hi rc a D p N ws L (grew T v' news) := by
  have h1 : Apart w' base (a.l ++ (L :: grew T v' news :: D)) := by
    have := ap_grow (A := a.l ++ [L]) (B := D) (r := T) (by simpa using ap_same h.ap (w' := w.alloc (.cells cs.toArray t)) fun k _ hk => heap_alloc_old w _ hk) G
    simpa using this
  exact ⟨h.st.finish (loc_beside h G) (loc_own h G) ⟨loc_sub h1, h.st.bld.sh, h.st.bld.few⟩ h.st.ssa h.st.c h.st.g h.st.e h.st.u rfl, h1⟩
theorem Loc.put {lb size : Nat} {t : TypeId} {cs : List Value} (h : Loc w base rb lo hi rc a D p N ws (lrec t size lb cs) T) (q : Nat) (u : Value) : Loc (w.setCell ⟨lb, q, none⟩ u) base rb lo hi rc a D p N ws (lrec t size lb (cs.set q u)) T := by
  have h1 := ap_store (A := a.l) (B := T :: D) (r := lrec t size lb cs) (q := q) (u := u) h.ap rfl
  have hb : base ≤ lb := (h.onL.lt (k := lb) rfl).1
  have hne : lb ≠ rb := by have := h.st.mid; omega
  exact ⟨h.st.finish ((Beside.refl base rb w).set (p := ⟨lb, q, none⟩) (.inl hb) u) (own_set h.st.own hne u) ⟨loc_sub h1, h.st.bld.sh, h.st.bld.few⟩ h.st.ssa h.st.c h.st.g h.st.e h.st.u rfl, h1⟩
/-- the variable's cells. -/
theorem Loc.cell {lb size : Nat} {t : TypeId} {cs : List Value} (h : Loc w base rb lo hi rc a D p N ws (lrec t size lb cs) T) {j : Nat} {u : Value} (hj : cs[j]? = some u) : w.cell? ⟨lb, j, none⟩ = some u ∧ w.frozen? ⟨lb, j, none⟩ = false ∧ lb < w.heap.size :=
  ⟨h.onL.cell rfl hj, h.onL.thaw rfl j, (h.onL.lt (k := lb) rfl).2⟩
/-- .. behind the growth of its row. -/
theorem Loc.cell_grew {lb size : Nat} {t t2 : TypeId} {cs cs2 news : List Value} {v' : Value} (h : Loc w base rb lo hi rc a D p N ws (lrec t size lb cs) T) (G : Grew (w.alloc (.cells cs2.toArray t2)) w' base T v' news) {j : Nat} {u : Value} (hj : cs[j]? = some u) : w'.cell? ⟨lb, j, none⟩ = some u ∧ w'.frozen? ⟨lb, j, none⟩ = false ∧ lb < w'.heap.size :=
  (h.grow G).cell hj

/-- All words, taken one thing behind the other. -/
def takeAll {β : Type} (take : List Wd → Option (β × List Wd)) : Nat → List Wd → Option (List β)
  | _, [] => some []
  | 0, _ :: _ => none
  | n + 1, x :: l => match take (x :: l) with | none => none | some (y, l) => (takeAll take n l).map (y :: ·)
/-- how many words are left. -/
def restLen (rb : Nat) (w : World) : Nat := match w.cell? ⟨rb, 8, none⟩ with | some (.slice _ n _) => n | _ => 0
theorem restLen_of (h : St w base rb lo hi rc a D p N ws) : restLen rb w = ws.length := by
  unfold restLen
  rw [h.cells.2.2.2.2.2.2.2.2.1]
  obtain ⟨A, n, cap, b, off, e, hn, _⟩ := h.wds
  rw [e]
  exact hn
theorem rest_form (h : St w base rb lo hi rc a D p N ws) : ∃ A cap, rc.rest = .slice A ws.length cap ∧ w.cell? ⟨rb, 8, none⟩ = some (.slice A ws.length cap) := by
  obtain ⟨A, n, cap, b, off, e, hn, _⟩ := h.wds
  exact ⟨A, cap, by rw [e, hn], by rw [h.cells.2.2.2.2.2.2.2.2.1, e, hn]⟩

/-- 'append' at a step of a region that draws, where the element was laid before anything else in it. -/
theorem step_grow_d {P : Program} {ops : Array Oper} {o : Oper} {w0 : World} {K : Go.Act → World → Prop} {Q : Exit → Go.Act → World → Prop} {E : Prop} {b : Go.Act} (hg : o.guard = none) (s x : Operand) (t : TypeId)
    (hop : o.op = Op.call { callee := Callee.builtin Builtin.append, args := #[s, x], argTypes := #[t, t] })
    (base : Nat) (e : TypeId) (i : TypeInfo) (z : Value) (size bytes : Nat) (ht : P.underlying t = some (.slice e)) (hi : P.info? e = some i) (hz : i.zero = some z)
    (hsize : i.size = size) (hby : i.bytes = bytes) (hzs : z.cells.size = size) (hsz : 0 < size) (hbb : bytes ≤ 65536)
    (r : Rec) (hre : r.t = e) (hrs : r.size = size) (hs : b.eval s = r.v) (hown : r.on w0.drew base)
    (news : List Value) (k : Nat) (hk : k = w0.heap.size) (hx : b.eval x = .slice (some ⟨k, 0, none⟩) 1 1) (hl : news.length = size) (h1 : ∀ u ∈ news, u.oneCell' = true)
    (hN : r.n < 1073741824) (hbase : base ≤ w0.heap.size)
    (hK : ∀ g cap w', Grew (w0.drew.alloc (.cells news.toArray e)) w' base r (.slice (some ⟨g, 0, none⟩) (r.n + 1) cap) news → K (b.put o.dst (.slice (some ⟨g, 0, none⟩) (r.n + 1) cap)) w') :
    if Region.wanted o (yielded ops b.tmps) = true then Oper.wp P o b (w0.alloc (.cells news.toArray e)).drew K Q else E :=
  step_grow (w0 := w0.drew) hg s x t hop base e i z size bytes ht hi hz hsize hby hzs hsz hbb r hre hrs hs hown news k hk hx hl h1 hN hbase hK
theorem row_val {r : Rec} {n : Nat} (h : r.on w base) (hn : r.n = n) : ∃ A c, r.v = .slice A n c := by
  obtain ⟨A, c, e⟩ := h.form
  exact ⟨A, c, by rw [e, hn]⟩
theorem inner_end2 {r : Rec} {v' : Value} {news : List Value} {t : TypeId} {cs : List Value} {a2 : Tree.Act} {D2 : List Rec} {p2 : Prog} {M g q : Nat} {w3 : World} (hT : St w1 base rb lo hi rc a D p N l) (h0 : Beside base rb w w1) (hr : r ∈ a.l) (G : Grew (w1.alloc (.cells cs.toArray t)) w2 base r v' news)
    (hb : Build (w2.setCell ⟨g, q, none⟩ v') base a2 D2 p2 M) (hgb : base ≤ g) (h3 : (w2.setCell ⟨g, q, none⟩ v').grownBy w3 (some rb)) : Beside base rb w w3 ∧ Beside base rb w1 w3 ∧ Build w3 base a2 D2 p2 M := by
  obtain ⟨_, b2, b3⟩ := inner_end (w := w1) hT (gr_refl w1 (some rb)) hT.high hr G hb hgb h3
  exact ⟨h0.trans b2, b2, b3⟩
theorem SameH.beside (h : SameH w w') : Beside base rb w w' := ⟨h.2.1, h.2.2.1, h.2.2.2, by rw [h.1]; exact Nat.le_refl _, fun k _ _ => by rw [h.1]⟩
end Go.Proofs.YtkmndgjabkjafaaGreatDoor.Rd5

namespace Go.Proofs.YtkmndgjabkjafaaGreatDoor.Tree
open Go.RowKit Api Hold Mem Syn

variable {w w' : World} {base : Nat} {r : Rec} {A B D D2 R : List Rec} {a : Act} {p : Prog} {v' : Value} {news : List Value} {N : Nat}
def inB (p : Prog) (f : Api.Block → Api.Block) : Prog := { p with funcs := Syn.last (fun x => { x with blocks := Syn.last f x.blocks }) p.funcs }
abbrev lastB (p : Prog) : List Api.Block := (p.funcs.getLast?.getD funcZ).blocks
abbrev theB (p : Prog) : Api.Block := (lastB p).getLast?.getD blockZ
theorem QInstr.mono {c : List Value} {x : Instr} (hD : ∀ F ∈ D, F ∈ D2) (h : QInstr a D c x) : QInstr a D2 c x := by
  obtain ⟨u, e, k1, k2, k3⟩ := h
  exact ⟨u, e, k1.mono hD fun _ _ h => h, k2.mono fun _ _ h => IsFrame.mono hD h, k3.mono fun _ _ h => IsVirt.mono hD h⟩

theorem Build.phi {g0 cap : Nat} {c : List Value} {x : Phi} (h : Build w base a D p N) (hne : p.funcs ≠ []) (hnb : lastB p ≠ []) (hap : Apart w base (a.l ++ D2)) (hD : ∀ F ∈ D, F ∈ D2) (hc : IsPhi D2 c x) (hc2 : c.length = 2) (g : Grew w w' base a.H v' c) (hv : a.B.v = .slice (some ⟨g0, 0, none⟩) a.B.n cap) (hN : N < 1073741824) :
    Build (w'.setCell ⟨g0, ((lastB p).length - 1) * 9 + 1, none⟩ v') base { a with H := grew a.H v' c, B := put a.B (((lastB p).length - 1) * 9 + 1) v' } D2 (inB p fun b => { b with phis := b.phis ++ [x] }) (N + 1) := by
  have hf := few_sub h.few
  have hx := few_all h.few
  refine h.inBlock hne rfl rfl rfl rfl rfl rfl rfl rfl ?_ hD (few_mk ?_) fun l hl e => ?_
  · have h1 := ap_grow (A := [a.C, a.F, a.G, a.E, a.U, a.R, a.V, a.B]) (B := [a.K, a.M, a.O] ++ D2) hap g
    exact ap_store (A := [a.C, a.F, a.G, a.E, a.U, a.R, a.V]) (B := [grew a.H v' c, a.K, a.M, a.O] ++ D2) (r := a.B) (q := ((lastB p).length - 1) * 9 + 1) (u := v') h1 hv
  · simp only
    omega
  · subst e
    refine (hl.mono (fun _ _ h => IsBlock.mono hD h) fun _ _ h => h).alter hnb fun c0 y _ hq => ?_
    obtain ⟨c2, e, h1, h2, h3⟩ := hq
    have hn := h1.2.2.1
    exact ⟨c2, by rw [e]; rfl, (h1.mono fun _ _ h => IsPhi.mono hD h).push (by omega) hc2 hc v', h2.mono (fun _ _ h => IsInstr.mono hD h) fun _ _ h => QInstr.mono hD h, IsTerm.mono hD h3⟩
theorem Build.instr {g0 cap : Nat} {u : Value} {op : Int} {dst name : Wd} {args : List Arg} (h : Build w base a D p N) (hne : p.funcs ≠ []) (hnb : lastB p ≠ []) (hap : Apart w base (a.l ++ D2)) (hD : ∀ F ∈ D, F ∈ D2) (hu : Args D2 u args) (g : Grew w w' base a.K v' [i64 op, str dst, str name, u, .slice none 0 0, .slice none 0 0]) (hv : a.B.v = .slice (some ⟨g0, 0, none⟩) a.B.n cap) (hN : N < 1073741824) :
    Build (w'.setCell ⟨g0, ((lastB p).length - 1) * 9 + 2, none⟩ v') base { a with K := grew a.K v' [i64 op, str dst, str name, u, .slice none 0 0, .slice none 0 0], B := put a.B (((lastB p).length - 1) * 9 + 2) v', M := .empty 167 4, O := .empty 169 2 } (a.O :: a.M :: D2) (inB p fun b => { b with code := b.code ++ [⟨op, dst, name, args, [], []⟩] }) (N + 1) := by
  have hf := few_sub h.few
  have hx := few_all h.few
  have hD3 : ∀ F ∈ D2, F ∈ a.O :: a.M :: D2 := fun F hF => by simp [hF]
  have hD4 : ∀ F ∈ D, F ∈ a.O :: a.M :: D2 := fun F hF => hD3 F (hD F hF)
  refine h.inBlock hne rfl rfl rfl rfl rfl rfl rfl rfl ?_ hD4 (few_mk ?_) fun l hl e => ?_
  · have h1 := ap_grow (A := [a.C, a.F, a.G, a.E, a.U, a.R, a.V, a.B, a.H]) (B := [a.M, a.O] ++ D2) hap g
    have h2 := ap_store (A := [a.C, a.F, a.G, a.E, a.U, a.R, a.V]) (B := [a.H, grew a.K v' [i64 op, str dst, str name, u, .slice none 0 0, .slice none 0 0], a.M, a.O] ++ D2) (r := a.B) (q := ((lastB p).length - 1) * 9 + 2) (u := v') h1 hv
    have h7 := ap_retire (A := [a.C, a.F, a.G, a.E, a.U, a.R, a.V, put a.B (((lastB p).length - 1) * 9 + 2) v', a.H, grew a.K v' [i64 op, str dst, str name, u, .slice none 0 0, .slice none 0 0]]) (r := a.M) (B := [a.O]) (D := D2) 167 4 h2
    exact ap_retire (A := [a.C, a.F, a.G, a.E, a.U, a.R, a.V, put a.B (((lastB p).length - 1) * 9 + 2) v', a.H, grew a.K v' [i64 op, str dst, str name, u, .slice none 0 0, .slice none 0 0], .empty 167 4]) (r := a.O) (B := []) (D := a.M :: D2) 169 2 h7
  · simp only [Rec.empty]
    omega
  · subst e
    refine (hl.mono (fun _ _ h => IsBlock.mono hD4 h) fun _ _ h => h).alter hnb fun c0 y _ hq => ?_
    obtain ⟨c2, e, h1, h2, h3⟩ := hq
    have hn := h2.2.2.1
    exact ⟨c2, by rw [e]; rfl, h1.mono fun _ _ h => IsPhi.mono hD4 h, h2.push (by omega) (fun _ _ h => IsInstr.mono hD4 h) (fun _ _ h => h.done hD4 (by simp) (by simp)) rfl ⟨u, rfl, hu.mono hD3 fun _ _ h => h, .none _ _ _, .none _ _ _⟩ v', IsTerm.mono hD4 h3⟩
theorem Build.frame {g0 cap : Nat} {c : List Value} {x : Api.Frame} (h : Build w base a D p N) (hne : p.funcs ≠ []) (hnb : lastB p ≠ []) (hnc : (theB p).code ≠ []) (hap : Apart w base (a.l ++ D2)) (hD : ∀ F ∈ D, F ∈ D2) (hc : IsFrame D2 c x) (hc2 : c.length = 4) (g : Grew w w' base a.M v' c) (hv : a.K.v = .slice (some ⟨g0, 0, none⟩) a.K.n cap) (hN : N < 1073741824) :
    Build (w'.setCell ⟨g0, ((theB p).code.length - 1) * 6 + 4, none⟩ v') base { a with M := grew a.M v' c, K := put a.K (((theB p).code.length - 1) * 6 + 4) v' } D2 (inB p fun b => { b with code := Syn.last (fun i => { i with frames := i.frames ++ [x] }) b.code }) (N + 1) := by
  have hf := few_sub h.few
  have hx := few_all h.few
  refine h.inBlock hne rfl rfl rfl rfl rfl rfl rfl rfl ?_ hD (few_mk ?_) fun l hl e => ?_
  · have h1 := ap_grow (A := [a.C, a.F, a.G, a.E, a.U, a.R, a.V, a.B, a.H, a.K]) (B := [a.O] ++ D2) hap g
    exact ap_store (A := [a.C, a.F, a.G, a.E, a.U, a.R, a.V, a.B, a.H]) (B := [grew a.M v' c, a.O] ++ D2) (r := a.K) (q := ((theB p).code.length - 1) * 6 + 4) (u := v') h1 hv
  · simp only
    omega
  · subst e
    obtain ⟨h1, h2, h3, h4, h5⟩ := hl
    refine ⟨h1, h2, by rw [last_length]; exact h3, by rw [last_length]; exact h4, ?_⟩
    rcases h5 with ⟨h5, _⟩ | ⟨init, b, cs0, c0, e0, e, h6, h7, h8⟩
    · exact absurd h5 hnb
    · refine .inr ⟨init, _, cs0, c0, by rw [e0]; exact last_snoc _ init b, e, h6.mono fun _ _ h => IsBlock.mono hD h, h7, ?_⟩
      have hb : theB p = b := by show (lastB p).getLast?.getD blockZ = b; unfold lastB; rw [e0]; simp
      obtain ⟨c2, e, k1, k2, k3⟩ := h8
      refine ⟨c2, e, k1.mono fun _ _ h => IsPhi.mono hD h, ?_, IsTerm.mono hD k3⟩
      rw [hb]
      rw [hb] at hnc
      refine (k2.mono (fun _ _ h => IsInstr.mono hD h) fun _ _ h => h).alter hnc fun ci y _ hq => ?_
      obtain ⟨u, e, q1, q2, q3⟩ := hq
      have hn := q2.2.2.1
      exact ⟨u, by rw [e]; rfl, q1.mono hD fun _ _ h => h, (q2.mono fun _ _ h => IsFrame.mono hD h).push (by omega) hc2 hc v', q3.mono fun _ _ h => IsVirt.mono hD h⟩
theorem Build.obj {g0 cap : Nat} {c : List Value} {x : Virt} (h : Build w base a D p N) (hne : p.funcs ≠ []) (hnb : lastB p ≠ []) (hnc : (theB p).code ≠ []) (hap : Apart w base (a.l ++ D2)) (hD : ∀ F ∈ D, F ∈ D2) (hc : IsVirt D2 c x) (hc2 : c.length = 2) (g : Grew w w' base a.O v' c) (hv : a.K.v = .slice (some ⟨g0, 0, none⟩) a.K.n cap) (hN : N < 1073741824) :
    Build (w'.setCell ⟨g0, ((theB p).code.length - 1) * 6 + 5, none⟩ v') base { a with O := grew a.O v' c, K := put a.K (((theB p).code.length - 1) * 6 + 5) v' } D2 (inB p fun b => { b with code := Syn.last (fun i => { i with objs := i.objs ++ [x] }) b.code }) (N + 1) := by
  have hf := few_sub h.few
  have hx := few_all h.few
  refine h.inBlock hne rfl rfl rfl rfl rfl rfl rfl rfl ?_ hD (few_mk ?_) fun l hl e => ?_
  · have h1 := ap_grow (A := [a.C, a.F, a.G, a.E, a.U, a.R, a.V, a.B, a.H, a.K, a.M]) (B := D2) hap g
    exact ap_store (A := [a.C, a.F, a.G, a.E, a.U, a.R, a.V, a.B, a.H]) (B := [a.M, grew a.O v' c] ++ D2) (r := a.K) (q := ((theB p).code.length - 1) * 6 + 5) (u := v') h1 hv
  · simp only
    omega
  · subst e
    obtain ⟨h1, h2, h3, h4, h5⟩ := hl
    refine ⟨h1, h2, by rw [last_length]; exact h3, by rw [last_length]; exact h4, ?_⟩
    rcases h5 with ⟨h5, _⟩ | ⟨init, b, cs0, c0, e0, e, h6, h7, h8⟩
    · exact absurd h5 hnb
    · refine .inr ⟨init, _, cs0, c0, by rw [e0]; exact last_snoc _ init b, e, h6.mono fun _ _ h => IsBlock.mono hD h, h7, ?_⟩
      have hb : theB p = b := by show (lastB p).getLast?.getD blockZ = b; unfold lastB; rw [e0]; simp
      obtain ⟨c2, e, k1, k2, k3⟩ := h8
      refine ⟨c2, e, k1.mono fun _ _ h => IsPhi.mono hD h, ?_, IsTerm.mono hD k3⟩
      rw [hb]
      rw [hb] at hnc
      refine (k2.mono (fun _ _ h => IsInstr.mono hD h) fun _ _ h => h).alter hnc fun ci y _ hq => ?_
      obtain ⟨u, e, q1, q2, q3⟩ := hq
      have hn := q3.2.2.1
      exact ⟨u, by rw [e]; rfl, q1.mono hD fun _ _ h => h, q2.mono fun _ _ h => IsFrame.mono hD h, (q3.mono fun _ _ h => IsVirt.mono hD h).push (by omega) hc2 hc v'⟩
end Go.Proofs.YtkmndgjabkjafaaGreatDoor.Tree
