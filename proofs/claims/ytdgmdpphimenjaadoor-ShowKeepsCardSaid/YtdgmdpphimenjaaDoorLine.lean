/-
  Package syntax: the map of its readers, and a line.
-/
import Derived.Test.YtdgmdpphimenjaaDoorActs
import Derived.Test.YtdgmdpphimenjaaDoorFrame
import Derived.Test.YtdgmdpphimenjaaDoorParts
import Derived.Maps.Own
import Derived.Maps.Views
namespace Go.Proofs.YtdgmdpphimenjaaDoor.Rd5
open Go.RowKit Api Hold Mem Syn WordM Tree Go.Maps

variable {w w' w1 w2 : World} {lo hi rb base N : Nat} {rc : RC} {v : Value} {l ws : List Wd} {row : Option Nat} {a : Tree.Act} {D D2 : List Rec} {p : Prog} {L T : Rec}
/-- How a function value among a map's elements reads: its number; -1: nil. -/
def fnElem (v : Value) : Option (DataW Unit × List MemPlace) :=
  match v with
  | .nilFunc => some (.lit (.int .i64 (-1)), [])
  | .func (.func n) ⟨[]⟩ ⟨[]⟩ => some (.lit (.int .i64 (n : Int)), [])
  | _ => none
theorem fnElem_inv {v : Value} {k : Int} {ps : List MemPlace} (h : fnElem v = some (.lit (.int .i64 k), ps)) : (k = -1 ∧ v = .nilFunc) ∨ ∃ n : Nat, k = (n : Int) ∧ v = .func (.func n) #[] #[] := by
  unfold fnElem at h
  split at h
  · injection h with h; injection h with h _; injection h with h; injection h with _ h; exact .inl ⟨h.symm, rfl⟩
  · injection h with h; injection h with h _; injection h with h; injection h with _ h; exact .inr ⟨_, h.symm, rfl⟩
  · cases h
theorem put_at {D : DataW Unit} {d z : DataW Unit} (h : IsMap D) (x y : Wd) : (D.put (.string y) d).atKey (.string x) z = if x = y then d else D.atKey (.string x) z := by
  by_cases e : x = y
  · subst e
    rw [if_pos rfl]
    exact atKey_put_same h (by simp [WideAt.IsKeyLit]) d z
  · rw [if_neg e]
    exact atKey_put_other (by intro h; injection h with h; exact e h) d z
theorem put_step {D : DataW Unit} {a b : Int} {x y : Wd} {z : DataW Unit} (h : IsMap D) (e : D.atKey (.string x) z = .lit (.int .i64 b)) : (D.put (.string y) (.lit (.int .i64 a))).atKey (.string x) z = .lit (.int .i64 (if x = y then a else b)) := by
  rw [put_at h, e]; split <;> rfl
theorem law5 : Keyed Tryd.prog 9 := string_keyed Tryd.underlying9
theorem wpList_insert {P : Program} (w : World) {ops : Array Oper} {rest : List Oper} {o : Oper} {a : Go.Act} {Q : Exit → Go.Act → World → Prop}
    (hg : o.guard = none) (m x v : Operand) (t : TypeId) (hop : o.op = Op.insert t m x v)
    (k e : TypeId) (K : Keyed P k) (ht : P.underlying t = some (.map k e)) (R : Value → Option (DataW Unit × List MemPlace)) (b n : Nat) (D : DataW Unit)
    (hm : a.eval m = .map (some b)) (hown : w.ownsMap P k R b n D) (hn : n < maxLen) (key val : Value) (kl : Lit) (hx : a.eval x = key) (hv : a.eval v = val) (hkey : keyOf P k key = some kl)
    (d : DataW Unit) (ps : List MemPlace) (hval : R val = some (d, ps))
    (hK : ∀ w', w'.ownsMap P k R b (n + 1) (D.put kl d) → w.grownBy w' (some b) → wpList P ops Q rest (a.put o.dst undef) w') :
    wpList P ops Q (o :: rest) a w := by
  refine wpList_plain hg fun K' hK' => ?_
  obtain ⟨w', hrun, r1, r2⟩ := hown.update K ht hn hkey hval
  unfold Oper.wp
  simp [execOp, hop, hm, hx, hv, hrun, Result.andThen]
  exact hK' _ _ (hK w' r1 r2)
end Go.Proofs.YtdgmdpphimenjaaDoor.Rd5
