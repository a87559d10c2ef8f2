/-
  Package syntax: an object of a state.
-/
import Derived.Test.YtdgmdpphimenjaaDoorLoc
import Derived.Test.YtdgmdpphimenjaaDoorKeep3
namespace Go.Proofs.YtdgmdpphimenjaaDoor.Rd5
open Go.RowKit Api Hold Mem Syn WordM Tree

variable {w w' w1 w2 : World} {lo hi rb base N : Nat} {rc : RC} {v : Value} {l ws : List Wd} {row : Option Nat} {a : Tree.Act} {D D2 : List Rec} {p : Prog} {L T : Rec}
theorem arg_info : (Tryd.prog.info? 44).map (fun i => (i.zero, i.size, i.bytes)) = some (some (.agg #[.int .i64 0, .string ⟨#[]⟩, .int .i64 0]), 3, 32) := by kernel_rfl
theorem virt_info : (Tryd.prog.info? 113).map (fun i => (i.zero, i.size, i.bytes)) = some (some (.agg #[.string ⟨#[]⟩, .slice none 0 0]), 2, 40) := by kernel_rfl
theorem ones_arg (k n : Int) (x : Wd) : ∀ u ∈ [i64 k, str x, i64 n], u.oneCell' = true := by
  intro u hu
  simp only [List.mem_cons, List.not_mem_nil, or_false] at hu
  rcases hu with rfl | rfl | rfl <;> rfl
theorem ones_virt (x : Wd) (A : Option Addr) (n c : Nat) : ∀ u ∈ [str x, .slice A n c], u.oneCell' = true := by
  intro u hu
  simp only [List.mem_cons, List.not_mem_nil, or_false] at hu
  rcases hu with rfl | rfl <;> rfl
abbrev theI (p : Prog) : Api.Instr := (theB p).code.getLast?.getD instrZ
def objP (p : Prog) (y : Virt) : Prog := inB p fun b => { b with code := Syn.last (fun i => { i with objs := i.objs ++ [y] }) b.code }
def objD (p : Prog) (pl lg : Int) (ov : Bool) (ws : List Wd) : Out :=
  if stB pl 384 = false then none else match takeName ws with
  | none => none
  | some (x, l) => match takeAll takeVal l.length l with
    | none => none
    | some vs => if 8 < vs.length then none else some (objP p ⟨x, vs⟩, 256, lg, ov || decide ((99 : Int) < (((theI p).objs.length + 1 : Nat) : Int)), [])
theorem objD_no {pl lg : Int} {ov : Bool} (h : stB pl 384 = false) : objD p pl lg ov ws = none := by unfold objD; rw [if_pos h]
theorem objD_none {pl lg : Int} {ov : Bool} (h : takeName ws = none) : objD p pl lg ov ws = none := by
  unfold objD
  rw [h]
  split <;> rfl
theorem objD_2 {pl lg : Int} {ov : Bool} {x : Wd} (h : takeName ws = some (x, l)) (h2 : takeAll takeVal l.length l = none) : objD p pl lg ov ws = none := by
  unfold objD
  rw [h]
  simp only
  rw [h2]
  split <;> rfl
theorem objD_3 {pl lg : Int} {ov : Bool} {x : Wd} {vs : List Arg} (h : takeName ws = some (x, l)) (h2 : takeAll takeVal l.length l = some vs) (h3 : 8 < vs.length) : objD p pl lg ov ws = none := by
  unfold objD
  rw [h]
  simp only
  rw [h2]
  simp only
  rw [if_pos h3]
  split <;> rfl
theorem objD_4 {pl lg : Int} {ov : Bool} {x : Wd} {vs : List Arg} (h0 : stB pl 384 = true) (h : takeName ws = some (x, l)) (h2 : takeAll takeVal l.length l = some vs) (h3 : ¬ 8 < vs.length) : objD p pl lg ov ws = some (objP p ⟨x, vs⟩, 256, lg, ov || decide ((99 : Int) < (((theI p).objs.length + 1 : Nat) : Int)), []) := by
  unfold objD
  rw [if_neg (by rw [h0]; simp), h]
  simp only
  rw [h2]
  simp only
  rw [if_neg h3]
theorem takeVal_less {y : Arg} (h : takeVal ws = some (y, l)) : l.length + 1 = ws.length := by
  cases ws with
  | nil => cases h
  | cons x m =>
    simp only [takeVal] at h
    split at h
    · simp at h; simp [h.2]
    · cases h
theorem takeName_less {y : Wd} (h : takeName ws = some (y, l)) : l.length + 1 = ws.length := by
  cases ws with
  | nil => cases h
  | cons x m =>
    simp only [takeName] at h
    split at h
    · simp at h; simp [h.2]
    · cases h
/-- The loop that takes all that is left. -/
structure All {β : Type} (take : List Wd → Option (β × List Wd)) (l ls : List Wd) (vs : List β) : Prop where
  eq : ∃ n, ls.length ≤ n ∧ takeAll take l.length l = (takeAll take n ls).map (vs ++ ·)
  len : vs.length + ls.length ≤ l.length
theorem All.start {β : Type} (take : List Wd → Option (β × List Wd)) (l : List Wd) : All take l l [] := ⟨⟨l.length, Nat.le_refl _, by simp⟩, by simp⟩
theorem All.bad {β : Type} {take : List Wd → Option (β × List Wd)} {l ls : List Wd} {vs : List β} (h : All take l ls vs) (hne : ls ≠ []) (h2 : take ls = none) : takeAll take l.length l = none := by
  obtain ⟨n, hn, e⟩ := h.eq
  rw [e]
  cases ls with
  | nil => exact absurd rfl hne
  | cons x m =>
    cases n with
    | zero => rfl
    | succ n => simp only [takeAll]; rw [h2]; rfl
theorem All.step {β : Type} {take : List Wd → Option (β × List Wd)} {l ls l2 : List Wd} {vs : List β} {y : β} (h : All take l ls vs) (h2 : take ls = some (y, l2)) (h3 : l2.length < ls.length) : All take l l2 (vs ++ [y]) := by
  obtain ⟨n, hn, e⟩ := h.eq
  have hl := h.len
  cases ls with
  | nil => simp at h3
  | cons x m =>
    cases n with
    | zero => simp at hn
    | succ n =>
      refine ⟨⟨n, by simp at hn h3 ⊢; omega, ?_⟩, by simp only [List.length_append, List.length_singleton]; omega⟩
      rw [e]
      simp only [takeAll]
      rw [h2]
      simp only [Option.map_map]
      congr 1
      funext z
      simp
theorem All.done {β : Type} {take : List Wd → Option (β × List Wd)} {l : List Wd} {vs : List β} (h : All take l [] vs) : takeAll take l.length l = some vs := by
  obtain ⟨n, _, e⟩ := h.eq
  rw [e]
  cases n <;> simp [takeAll]

end Go.Proofs.YtdgmdpphimenjaaDoor.Rd5
