/-
  Package syntax: a phi.
-/
import Derived.Test.YtdgmdpphimenjaaDoorObj
namespace Go.Proofs.YtdgmdpphimenjaaDoor.Rd5
open Go.RowKit Api Hold Mem Syn WordM Tree

variable {w w' w1 w2 : World} {lo hi rb base N : Nat} {rc : RC} {v : Value} {l ws : List Wd} {row : Option Nat} {a : Tree.Act} {D D2 : List Rec} {p : Prog} {L T : Rec}
theorem in_info : (Tryd.prog.info? 65).map (fun i => (i.zero, i.size, i.bytes)) = some (some (.agg #[.string ⟨#[]⟩, .int .i64 0, .string ⟨#[]⟩, .int .i64 0]), 4, 48) := by kernel_rfl
theorem phi_info : (Tryd.prog.info? 63).map (fun i => (i.zero, i.size, i.bytes)) = some (some (.agg #[.string ⟨#[]⟩, .slice none 0 0]), 2, 40) := by kernel_rfl
theorem ones_in (k n : Int) (x y : Wd) : ∀ u ∈ [str x, i64 k, str y, i64 n], u.oneCell' = true := by
  intro u hu
  simp only [List.mem_cons, List.not_mem_nil, or_false] at hu
  rcases hu with rfl | rfl | rfl | rfl <;> rfl
def phiP (p : Prog) (y : Phi) : Prog := inB p fun b => { b with phis := b.phis ++ [y] }
def phiD (p : Prog) (pl lg : Int) (ov : Bool) (ws : List Wd) : Out :=
  if stB pl 32 = false then none else match takeName ws with
  | none => none
  | some (x, l) => match takeIn l with
    | none => none
    | some (y, l) => match takeAll takeIn l.length l with
      | none => none
      | some vs => some (phiP p ⟨x, y :: vs⟩, pl, lg + 1, (ov || decide ((256 : Int) < ((y :: vs).length : Int))) || decide (1024 < lg + 1), [])
theorem phiD_no {pl lg : Int} {ov : Bool} (h : stB pl 32 = false) : phiD p pl lg ov ws = none := by unfold phiD; rw [if_pos h]
theorem phiD_none {pl lg : Int} {ov : Bool} (h : takeName ws = none) : phiD p pl lg ov ws = none := by
  unfold phiD
  rw [h]
  split <;> rfl
theorem phiD_1 {pl lg : Int} {ov : Bool} {x : Wd} (h : takeName ws = some (x, l)) (h1 : takeIn l = none) : phiD p pl lg ov ws = none := by
  unfold phiD
  rw [h]
  simp only
  rw [h1]
  split <;> rfl
theorem phiD_2 {pl lg : Int} {ov : Bool} {x : Wd} {y : Bind} {l2 : List Wd} (h : takeName ws = some (x, l)) (h1 : takeIn l = some (y, l2)) (h2 : takeAll takeIn l2.length l2 = none) : phiD p pl lg ov ws = none := by
  unfold phiD
  rw [h]
  simp only
  rw [h1]
  simp only
  rw [h2]
  split <;> rfl
theorem phiD_4 {pl lg : Int} {ov : Bool} {x : Wd} {y : Bind} {l2 : List Wd} {vs : List Bind} (h0 : stB pl 32 = true) (h : takeName ws = some (x, l)) (h1 : takeIn l = some (y, l2)) (h2 : takeAll takeIn l2.length l2 = some vs) : phiD p pl lg ov ws = some (phiP p ⟨x, y :: vs⟩, pl, lg + 1, (ov || decide ((256 : Int) < ((y :: vs).length : Int))) || decide (1024 < lg + 1), []) := by
  unfold phiD
  rw [if_neg (by rw [h0]; simp), h]
  simp only
  rw [h1]
  simp only
  rw [h2]
theorem takeArg_less {y : Arg} (h : takeArg ws = some (y, l)) : l.length + 1 = ws.length := by
  unfold takeArg at h
  cases hv : takeVal ws with
  | none => rw [hv] at h; cases h
  | some q =>
    obtain ⟨q1, q2⟩ := q
    rw [hv] at h
    simp only at h
    split at h
    · cases h
    · simp at h
      rw [← h.2]
      exact takeVal_less hv
theorem takeIn_less {y : Bind} (h : takeIn ws = some (y, l)) : l.length + 2 = ws.length := by
  unfold takeIn at h
  cases hn : takeName ws with
  | none => rw [hn] at h; cases h
  | some q =>
    obtain ⟨q1, q2⟩ := q
    rw [hn] at h
    simp only at h
    cases ha : takeArg q2 with
    | none => rw [ha] at h; cases h
    | some q =>
      obtain ⟨q3, q4⟩ := q
      rw [ha] at h
      simp at h
      have h1 := takeName_less hn
      have h2 := takeArg_less ha
      rw [← h.2]
      omega
end Go.Proofs.YtdgmdpphimenjaaDoor.Rd5
