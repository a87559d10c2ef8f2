/-
  Package syntax: a line's thing that is being made in a variable of the call's own, while words are taken: L the variable, T its row that grows.
-/
import Derived.Test.YtdgmdpphimenjaaDoorEnds
namespace Go.Proofs.YtdgmdpphimenjaaDoor.Rd5
open Go.RowKit Api Hold Mem Syn WordM Tree

variable {w w' w1 w2 : World} {lo hi rb base N : Nat} {rc : RC} {v : Value} {l ws : List Wd} {row : Option Nat} {a : Tree.Act} {D D2 : List Rec} {p : Prog} {L T : Rec}
abbrev lrec (t : TypeId) (size lb : Nat) (cs : List Value) : Rec := ⟨t, size, .slice (some ⟨lb, 0, none⟩) 1 1, 1, cs⟩
theorem loc_sub (h : Apart w base (a.l ++ (L :: T :: D))) : Apart w base (a.l ++ D) := h.sub (List.Sublist.append (List.Sublist.refl _) ((List.sublist_cons_self _ _).trans (List.sublist_cons_self _ _)))
theorem loc_sub1 (h : Apart w base (a.l ++ (L :: T :: D))) : Apart w base (a.l ++ (T :: D)) := h.sub (List.Sublist.append (List.Sublist.refl _) (List.sublist_cons_self _ _))
/-- All words, taken one thing behind the other. -/
def takeAll {β : Type} (take : List Wd → Option (β × List Wd)) : Nat → List Wd → Option (List β)
  | _, [] => some []
  | 0, _ :: _ => none
  | n + 1, x :: l => match take (x :: l) with | none => none | some (y, l) => (takeAll take n l).map (y :: ·)
/-- how many words are left. -/
def restLen (rb : Nat) (w : World) : Nat := match w.cell? ⟨rb, 8, none⟩ with | some (.slice _ n _) => n | _ => 0
/-- 'append' at a step of a region that draws, where the element was laid before anything else in it. -/
theorem step_grow_d {P : Program} {ops : Array Oper} {o : Oper} {w0 : World} {K : Go.Act → World → Prop} {Q : Exit → Go.Act → World → Prop} {E : Prop} {b : Go.Act} (hg : o.guard = none) (s x : Operand) (t : TypeId)
    (hop : o.op = Op.call { callee := Callee.builtin Builtin.append, args := #[s, x], argTypes := #[t, t] })
    (base : Nat) (e : TypeId) (i : TypeInfo) (z : Value) (size bytes : Nat) (ht : P.underlying t = some (.slice e)) (hi : P.info? e = some i) (hz : i.zero = some z)
    (hsize : i.size = size) (hby : i.bytes = bytes) (hzs : z.cells.size = size) (hsz : 0 < size) (hbb : bytes ≤ 65536)
    (r : Rec) (hre : r.t = e) (hrs : r.size = size) (hs : b.eval s = r.v) (hown : r.on w0.drew base)
    (news : List Value) (k : Nat) (hk : k = w0.heap.size) (hx : b.eval x = .slice (some ⟨k, 0, none⟩) 1 1) (hl : news.length = size) (h1 : ∀ u ∈ news, u.oneCell' = true)
    (hN : r.n < 1073741824) (hbase : base ≤ w0.heap.size)
    (hK : ∀ g cap w', Grew (w0.drew.alloc (.cells news.toArray e)) w' base r (.slice (some ⟨g, 0, none⟩) (r.n + 1) cap) news → K (b.put o.dst (.slice (some ⟨g, 0, none⟩) (r.n + 1) cap)) w') :
    if Region.wanted o (yielded ops b.tmps) = true then Oper.wp P o b (w0.alloc (.cells news.toArray e)).drew K Q else E :=
  step_grow (w0 := w0.drew) hg s x t hop base e i z size bytes ht hi hz hsize hby hzs hsz hbb r hre hrs hs hown news k hk hx hl h1 hN hbase hK
theorem row_val {r : Rec} {n : Nat} (h : r.on w base) (hn : r.n = n) : ∃ A c, r.v = .slice A n c := by
  obtain ⟨A, c, e⟩ := h.form
  exact ⟨A, c, by rw [e, hn]⟩
theorem SameH.beside (h : SameH w w') : Beside base rb w w' := ⟨h.2.1, h.2.2.1, h.2.2.2, by rw [h.1]; exact Nat.le_refl _, fun k _ _ => by rw [h.1]⟩
end Go.Proofs.YtdgmdpphimenjaaDoor.Rd5
