/-
  Package syntax: what takes one word of a line: next, name, kind, declared, number, count, value, argument, in; and stands, limit, refuse.
-/
import Derived.Test.YtkfpcaganhmkcaaDoorKeep
import Derived.Test.YtkfpcaganhmkcaaDoorCallsW
import Derived.Test.YtkfpcaganhmkcaaDoorCallsN
import Derived.WalkLawsBesides
import Derived.Lib.Hide
namespace Go.Proofs.YtkfpcaganhmkcaaDoor.Rd5
open Go.RowKit Api Hold Mem Syn WordM

abbrev chain (k : Int) : List PanicEntry := [{ v := .iface 39 (.int .i64 k), recovered := false }]
theorem refuse_any (k : Int) (w : World) : Calls Tryd.prog 98 #[.int .i64 k] w fun e w' => e = .panicked (chain k) ∧ w = w' := by
  go_enter Tryd.func98, Tryd.ntmps98
  go_wp2
  exact ⟨rfl, rfl, rfl⟩

/-- The reader's cells. -/
structure RC where
  ssa : Value
  c : Value
  g : Value
  e : Value
  u : Value
  place : Int
  long : Int
  first : Value
  rest : Value
  over : Bool
def RC.l (rc : RC) : List Value := [rc.ssa, rc.c, rc.g, rc.e, rc.u, i64 rc.place, i64 rc.long, rc.first, rc.rest, .bool rc.over]
abbrev OwnR (w : World) (rb : Nat) (rc : RC) : Prop := Own w rb 88 rc.l

/-- v is a row of words. -/
def Ws (lo hi : Nat) (w : World) (v : Value) (l : List Wd) : Prop :=
  ∃ A n cap b off, v = .slice A n cap ∧ n = l.length ∧ n ≤ cap ∧ cap ≤ 9223372036854775807 ∧ (0 < n → A = some ⟨b, off, none⟩ ∧ lo ≤ b ∧ b < hi) ∧ (∀ i x, l[i]? = some x → w.cell? ⟨b, off + i, none⟩ = some (str x)) ∧ ∀ x ∈ l, x.length ≤ 4194304
variable {w w' w1 : World} {lo hi rb base : Nat} {rc : RC} {v : Value} {l ws : List Wd}
theorem Ws.move (h : Ws lo hi w v l) (hk : ∀ k, lo ≤ k → k < hi → w'.heap[k]? = w.heap[k]?) : Ws lo hi w' v l := by
  obtain ⟨A, n, cap, b, off, e, hn, hc, hm, ha, hw, hs⟩ := h
  refine ⟨A, n, cap, b, off, e, hn, hc, hm, ha, fun i x hx => ?_, hs⟩
  have hi := (List.getElem?_eq_some_iff.1 hx).1
  obtain ⟨_, h1, h2⟩ := ha (by omega)
  exact (World.cell?_of_block (w := w) (hk b h1 h2)).trans (hw i x hx)
theorem Ws.grown {row : Option Nat} (h : Ws lo hi w v l) (hg : w.grownBy w' row) (hr : ∀ k, row = some k → hi ≤ k) (hh : hi ≤ w.heap.size) : Ws lo hi w' v l :=
  h.move fun k _ hk => hg.block k (by omega) (fun e => by have := hr k e.symm; omega)
theorem own_far {row : Option Nat} (h : OwnR w rb rc) (hg : w.grownBy w' row) (hr : some rb ≠ row) : OwnR w' rb rc := (hg.block rb h.lt hr).trans h
theorem grown_trans {row : Option Nat} (h : w.grownBy w1 row) (h2 : w1.grownBy w' row) : w.grownBy w' row := h.trans h2
theorem grown_below {B : Nat} {row : Option Nat} (hB : w.heap.size ≤ B) (h : Below B w w') : w.grownBy w' row := ⟨h.os, h.tape, h.output, h.size, fun k hk _ => h.block k (by omega)⟩

/-- One or more words were taken: ws is left; nothing else has turned. -/
def Took (lo hi rb : Nat) (rc : RC) (ws : List Wd) (w w' : World) : Prop := ∃ v, OwnR w' rb { rc with rest := v } ∧ Ws lo hi w' v ws ∧ w.grownBy w' (some rb)
/-- What taking leaves: a value and the words behind it; or a panic with ErrSyntax. -/
def TakeR {β : Type} (val : β → Value) (r : Option (β × List Wd)) (lo hi rb : Nat) (rc : RC) (w : World) (e : Ending) (w' : World) : Prop :=
  match r with
  | some (y, ws) => e = .returned (val y) ∧ Took lo hi rb rc ws w w'
  | none => e = .panicked (chain 3) ∧ w.grownBy w' (some rb)

/-- The words as the walk meets them: none; or one, and the others. -/
theorem Ws.none (h : Ws lo hi w v []) : ∃ A cap, v = .slice A 0 cap := by
  obtain ⟨A, n, cap, b, off, e, rfl, _⟩ := h
  exact ⟨A, cap, e⟩
def takeWord : List Wd → Option (Wd × List Wd) | [] => none | x :: l => some (x, l)

theorem next_none (hO : OwnR w rb rc) (hW : Ws lo hi w rc.rest []) :
    Calls Tryd.prog 133 #[.pointer (some ⟨rb, 0, none⟩)] w fun e w' => e = .panicked (chain 3) ∧ w = w' := by
  have f8 := hO.cell 8
  obtain ⟨A, cap, e⟩ := hW.none
  simp only [RC.l] at f8
  rw [e] at f8
  simp only [List.getElem?_cons_succ, List.getElem?_cons_zero] at f8
  clear e hO hW
  go_enter Tryd.func133, Tryd.ntmps133
  go_wp2_with (go_at_call 98; (with_reducible refine (refuse_any _ _).mono ?_); rintro e w1 ⟨rfl, rfl⟩)
  exact ⟨rfl, rfl, rfl⟩
theorem next_some {x : Wd} (hO : OwnR w rb rc) (hW : Ws lo hi w rc.rest (x :: l)) (hh : hi ≤ rb) :
    Calls Tryd.prog 133 #[.pointer (some ⟨rb, 0, none⟩)] w fun e w' => e = .returned (str x) ∧ Took lo hi rb rc l w w' := by
  have f8 := hO.cell 8
  have z8 := hO.thaw 8
  have hlt := hO.lt
  obtain ⟨A, n, cap, b, off, e, hn, hc, hm, ha, hw, hs⟩ := hW
  simp only [RC.l] at f8
  rw [e] at f8
  simp only [List.getElem?_cons_succ, List.getElem?_cons_zero] at f8
  have hn2 : n = l.length + 1 := by simpa using hn
  obtain ⟨rfl, hb1, hb2⟩ := ha (by omega)
  have c0 := hw 0 x rfl
  rw [Nat.add_zero] at c0
  have HN := Lib.hid hn2
  have e0 : ((n : Int) == 0) = false := by simp; omega
  have hn1 : 1 ≤ n := by omega
  have HW : Hid (∀ i y, l[i]? = some y → w.cell? ⟨b, off + 1 + i, none⟩ = some (str y)) := Lib.hid fun i y hy => by
    have := hw (i + 1) y (by simpa using hy)
    rw [← this]; congr 2; omega
  have HS : Hid (∀ x ∈ l, x.length ≤ 4194304) := Lib.hid fun y hy => hs y (by simp [hy])
  have HO := Lib.hid hO
  clear hw hs ha hn hn2 hO e
  have hfin : ∀ v', Ws lo hi w v' l → Took lo hi rb rc l w (w.setCell ⟨rb, 8, none⟩ v') := fun v' hv => ⟨v', HO.out.store 8 v', hv.move fun k _ hk => Below.heap_setCell w _ v' k (show k ≠ rb by omega), ⟨rfl, rfl, rfl, by simp [World.setCell], fun k hk hne => Below.heap_setCell w _ v' k (fun e => hne (by rw [show k = rb from e]))⟩⟩
  have HF := Lib.hid hfin
  clear hfin
  by_cases h1 : cap = 1
  · subst h1
    obtain rfl : n = 1 := by omega
    go_enter Tryd.func133, Tryd.ntmps133
    go_wp2
    go_ret
    refine ⟨rfl, HF.out _ ⟨_, 0, _, 0, 0, rfl, by have := HN.out; omega, by omega, by omega, by omega, fun i x hx => ?_, HS.out⟩⟩
    have := (List.getElem?_eq_some_iff.1 hx).1
    have := HN.out
    omega
  · have h2 : 1 < cap := by omega
    clear h1
    go_enter Tryd.func133, Tryd.ntmps133
    go_wp2
    go_ret
    exact ⟨rfl, HF.out _ ⟨_, _, _, b, off + 1, rfl, by have := HN.out; omega, by omega, by omega, fun _ => ⟨rfl, hb1, hb2⟩, HW.out, HS.out⟩⟩
end Go.Proofs.YtkfpcaganhmkcaaDoor.Rd5
