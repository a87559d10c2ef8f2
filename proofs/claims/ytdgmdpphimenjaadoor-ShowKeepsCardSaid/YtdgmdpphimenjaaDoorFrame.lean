/-
  Package syntax: a frame of a state.
-/
import Derived.Test.YtdgmdpphimenjaaDoorPhi
namespace Go.Proofs.YtdgmdpphimenjaaDoor.Rd5
open Go.RowKit Api Hold Mem Syn WordM Tree

variable {w w' w1 w2 : World} {lo hi rb base N : Nat} {rc : RC} {v : Value} {l ws : List Wd} {row : Option Nat} {a : Tree.Act} {D D2 : List Rec} {p : Prog} {L T : Rec}
theorem bind_info : (Tryd.prog.info? 111).map (fun i => (i.zero, i.size, i.bytes)) = some (some (.agg #[.string ⟨#[]⟩, .int .i64 0, .string ⟨#[]⟩, .int .i64 0]), 4, 48) := by kernel_rfl
theorem frm_info : (Tryd.prog.info? 109).map (fun i => (i.zero, i.size, i.bytes)) = some (some (.agg #[.string ⟨#[]⟩, .string ⟨#[]⟩, .int .i64 0, .slice none 0 0]), 4, 64) := by kernel_rfl
theorem ones_frm (x y : Wd) (n : Int) (A : Option Addr) (k c : Nat) : ∀ u ∈ [str x, str y, i64 n, .slice A k c], u.oneCell' = true := by
  intro u hu
  simp only [List.mem_cons, List.not_mem_nil, or_false] at hu
  rcases hu with rfl | rfl | rfl | rfl <;> rfl
def frmP (p : Prog) (y : Api.Frame) : Prog := inB p fun b => { b with code := Syn.last (fun i => { i with frames := i.frames ++ [y] }) b.code }
def takeBind (ws : List Wd) : Option (Bind × List Wd) := match takeName ws with | some (n, l) => (match takeVal l with | some (a, l) => some (⟨n, a⟩, l) | none => none) | none => none
theorem takeBind_1 (h : takeName ws = none) : takeBind ws = none := by unfold takeBind; rw [h]
theorem takeBind_2 {n : Wd} (h : takeName ws = some (n, l)) (h2 : takeVal l = none) : takeBind ws = none := by unfold takeBind; rw [h]; simp only; rw [h2]
theorem takeBind_3 {n : Wd} {x : Arg} {l2 : List Wd} (h : takeName ws = some (n, l)) (h2 : takeVal l = some (x, l2)) : takeBind ws = some (⟨n, x⟩, l2) := by unfold takeBind; rw [h]; simp only; rw [h2]
def frmD (p : Prog) (pl lg : Int) (ov : Bool) (ws : List Wd) : Out :=
  if stB pl 128 = false then none else match takeName ws with
  | none => none
  | some (x, l) => match takeName l with
    | none => none
    | some (y, l) => match takeCount 1024 l with
      | none => none
      | some (n, l) => match takeAll takeBind l.length l with
        | none => none
        | some vs => some (frmP p ⟨x, y, n, vs⟩, pl, lg, (ov || decide ((16 : Int) < (vs.length : Int))) || decide ((16 : Int) < (((theI p).frames.length + 1 : Nat) : Int)), [])
theorem frmD_no {pl lg : Int} {ov : Bool} (h : stB pl 128 = false) : frmD p pl lg ov ws = none := by unfold frmD; rw [if_pos h]
theorem frmD_1 {pl lg : Int} {ov : Bool} (h : takeName ws = none) : frmD p pl lg ov ws = none := by
  unfold frmD
  rw [h]
  split <;> rfl
theorem frmD_2 {pl lg : Int} {ov : Bool} {x : Wd} (h : takeName ws = some (x, l)) (h1 : takeName l = none) : frmD p pl lg ov ws = none := by
  unfold frmD
  rw [h]
  simp only
  rw [h1]
  split <;> rfl
theorem frmD_3 {pl lg : Int} {ov : Bool} {x y : Wd} {l2 : List Wd} (h : takeName ws = some (x, l)) (h1 : takeName l = some (y, l2)) (h2 : takeCount 1024 l2 = none) : frmD p pl lg ov ws = none := by
  unfold frmD
  rw [h]
  simp only
  rw [h1]
  simp only
  rw [h2]
  split <;> rfl
theorem frmD_4 {pl lg : Int} {ov : Bool} {x y : Wd} {l2 l3 : List Wd} {n : Int} (h : takeName ws = some (x, l)) (h1 : takeName l = some (y, l2)) (h2 : takeCount 1024 l2 = some (n, l3)) (h3 : takeAll takeBind l3.length l3 = none) : frmD p pl lg ov ws = none := by
  unfold frmD
  rw [h]
  simp only
  rw [h1]
  simp only
  rw [h2]
  simp only
  rw [h3]
  split <;> rfl
theorem frmD_5 {pl lg : Int} {ov : Bool} {x y : Wd} {l2 l3 : List Wd} {n : Int} {vs : List Bind} (h0 : stB pl 128 = true) (h : takeName ws = some (x, l)) (h1 : takeName l = some (y, l2)) (h2 : takeCount 1024 l2 = some (n, l3)) (h3 : takeAll takeBind l3.length l3 = some vs) : frmD p pl lg ov ws = some (frmP p ⟨x, y, n, vs⟩, pl, lg, (ov || decide ((16 : Int) < (vs.length : Int))) || decide ((16 : Int) < (((theI p).frames.length + 1 : Nat) : Int)), []) := by
  unfold frmD
  rw [if_neg (by rw [h0]; simp), h]
  simp only
  rw [h1]
  simp only
  rw [h2]
  simp only
  rw [h3]
theorem takeCount_less {m n : Int} (h : takeCount m ws = some (n, l)) : l.length + 1 = ws.length := by
  unfold takeCount at h
  cases hv : takeNum ws with
  | none => rw [hv] at h; cases h
  | some q =>
    obtain ⟨q1, q2⟩ := q
    rw [hv] at h
    simp only at h
    split at h
    · cases h
    · simp at h
      cases ws with
      | nil => cases hv
      | cons x m =>
        simp only [takeNum] at hv
        split at hv
        · simp at hv; rw [← h.2, ← hv.2]; simp
        · cases hv

end Go.Proofs.YtdgmdpphimenjaaDoor.Rd5
