/-
  Package syntax: an instruction.
-/
import Derived.Test.YtdgmdpphimenjaaDoorForms
namespace Go.Proofs.YtdgmdpphimenjaaDoor.Rd5
open Go.RowKit Api Hold Mem Syn WordM Tree

variable {w w' w1 w2 : World} {lo hi rb base N : Nat} {rc : RC} {v : Value} {l ws : List Wd} {row : Option Nat} {a : Tree.Act} {D D2 : List Rec} {p : Prog} {L T : Rec}
theorem ins_info : (Tryd.prog.info? 72).map (fun i => (i.zero, i.size, i.bytes)) = some (some (.agg #[.int .i64 0, .string ⟨#[]⟩, .string ⟨#[]⟩, .slice none 0 0, .slice none 0 0, .slice none 0 0]), 6, 112) := by kernel_rfl
theorem ones_ins (k : Int) (x y : Wd) (A : Option Addr) (n c : Nat) : ∀ u ∈ [i64 k, str x, str y, .slice A n c, .slice none 0 0, .slice none 0 0], u.oneCell' = true := by
  intro u hu
  simp only [List.mem_cons, List.not_mem_nil, or_false] at hu
  rcases hu with rfl | rfl | rfl | rfl | rfl | rfl <;> rfl
def insP (p : Prog) (y : Instr) : Prog := inB p fun b => { b with code := b.code ++ [y] }
/-- The arguments ahead of the name. -/
def takeN {β : Type} (take : List Wd → Option (β × List Wd)) : Nat → List Wd → Option (List β × List Wd)
  | 0, l => some ([], l)
  | n + 1, l => match take l with | none => none | some (y, l) => (match takeN take n l with | none => none | some (ys, l) => some (y :: ys, l))
/-- The name, if the form has one. -/
def takeNm (b : Bool) (l : List Wd) : Option (Wd × List Wd) := if b then takeName l else some ([], l)
def insD (p : Prog) (pl lg : Int) (ov : Bool) (dst x : Wd) (ws : List Wd) : Out :=
  if stB pl 480 = false then none
  else if (opV x).2 = false ∨ (formV (opV x).1).1.dst ≠ (dst != []) then none
  else match takeN takeArg (aheadV (opV x).1) ws with
  | none => none
  | some (us, l1) => match takeNm (formV (opV x).1).1.named l1 with
    | none => none
    | some (nm, l2) => match takeAll takeArg l2.length l2 with
      | none => none
      | some vs => if ((us ++ vs).length : Int) < (formV (opV x).1).1.least ∨ (formV (opV x).1).1.most < ((us ++ vs).length : Int) then none
        else some (insP p ⟨(opV x).1, dst, nm, us ++ vs, [], []⟩, behindV (opV x).1, lg + 1, ov || decide (1024 < lg + 1), [])
theorem opFrom_lt (x : Wd) (k : Nat) (h : k ≤ 35) (h1 : 1 ≤ k) : (opFrom x k).2 = true → 1 ≤ (opFrom x k).1 ∧ (opFrom x k).1 ≤ 34 := by
  obtain ⟨n, hn⟩ : ∃ n, 35 - k = n := ⟨_, rfl⟩
  induction n generalizing k with
  | zero =>
    rw [opFrom, dif_neg (by omega)]
    intro h; cases h
  | succ n ih =>
    rw [opFrom, dif_pos (by omega)]
    split
    · intro _; simp only; omega
    · exact ih (k + 1) (by omega) (by omega) (by omega)
theorem opV_lt {x : Wd} (h : (opV x).2 = true) : 1 ≤ (opV x).1 ∧ (opV x).1 ≤ 34 := opFrom_lt x 1 (by omega) (by omega) h
theorem opFrom_no (x : Wd) (k : Nat) (h : (opFrom x k).2 = false) : (opFrom x k).1 = 0 := by
  obtain ⟨n, hn⟩ : ∃ n, 35 - k = n := ⟨_, rfl⟩
  induction n generalizing k with
  | zero => rw [opFrom, dif_neg (by omega)]
  | succ n ih =>
    rw [opFrom, dif_pos (by omega)] at h ⊢
    split at h
    · cases h
    · rename_i hne
      rw [if_neg hne]
      exact ih (k + 1) h (by omega)
theorem opV_no {x : Wd} (h : (opV x).2 = false) : (opV x).1 = 0 := opFrom_no x 1 h
theorem of_any5 (op : Nat) (w : World) (hL : LaidS w) : Calls Tryd.prog 111 #[i64 (op : Int)] w (OfR w op) := by
  by_cases h : 1 ≤ op ∧ op ≤ 34
  · exact of_yes op w hL h
  · exact of_no op w (by omega)
theorem shape_monoD (h : Shape a D p) (hD : ∀ F ∈ D, F ∈ D2) : Shape a D2 p := by
  refine ⟨h.c.mono (fun _ _ h => IsClass.mono hD h) fun _ _ h => h, h.g, h.e, h.u.mono (fun _ _ h => IsFunc.mono hD h) fun c x h => ?_⟩
  obtain ⟨e, h1, h2, h3⟩ := h
  refine ⟨e, h1, h2, h3.mono (fun _ _ h => IsBlock.mono hD h) fun c x h => ?_⟩
  obtain ⟨c2, e, h1, h2, h3⟩ := h
  exact ⟨c2, e, h1.mono fun _ _ h => IsPhi.mono hD h, h2.mono (fun _ _ h => IsInstr.mono hD h) fun c x h => QInstr.mono hD h, IsTerm.mono hD h3⟩
abbrev FitI (p : Prog) (pl : Int) : Prop := stB pl 480 = true → p.funcs ≠ [] ∧ lastB p ≠ []
theorem takeN_step {β : Type} {take : List Wd → Option (β × List Wd)} {n m k : Nat} {l ls l2 : List Wd} {us : List β} {y : β} (hm : m = k + 1) (h : takeN take n l = (takeN take m ls).map fun q => (us ++ q.1, q.2)) (h2 : take ls = some (y, l2)) : takeN take n l = (takeN take k l2).map fun q => (us ++ [y] ++ q.1, q.2) := by
  subst hm
  rw [h]
  simp only [takeN]
  rw [h2]
  simp only
  cases takeN take k l2 with
  | none => rfl
  | some q => simp
theorem takeN_bad {β : Type} {take : List Wd → Option (β × List Wd)} {n m k : Nat} {l ls : List Wd} {us : List β} (hm : m = k + 1) (h : takeN take n l = (takeN take m ls).map fun q => (us ++ q.1, q.2)) (h2 : take ls = none) : takeN take n l = none := by
  subst hm
  rw [h]
  simp only [takeN]
  rw [h2]
  rfl
theorem insD_mis {pl lg : Int} {ov : Bool} {dst x : Wd} (h : (opV x).2 = false ∨ (formV (opV x).1).1.dst ≠ (dst != [])) : insD p pl lg ov dst x ws = none := by
  unfold insD
  by_cases hs : stB pl 480 = false
  · rw [if_pos hs]
  · rw [if_neg hs, if_pos h]
theorem insD_1 {pl lg : Int} {ov : Bool} {dst x : Wd} (h : takeN takeArg (aheadV (opV x).1) ws = none) : insD p pl lg ov dst x ws = none := by
  unfold insD
  rw [h]
  split
  · rfl
  · split <;> rfl
theorem insD_2 {pl lg : Int} {ov : Bool} {dst x : Wd} {us : List Arg} {l1 : List Wd} (h : takeN takeArg (aheadV (opV x).1) ws = some (us, l1)) (h2 : takeNm (formV (opV x).1).1.named l1 = none) : insD p pl lg ov dst x ws = none := by
  unfold insD
  rw [h]
  simp only
  rw [h2]
  split
  · rfl
  · split <;> rfl
theorem insD_3 {pl lg : Int} {ov : Bool} {dst x nm : Wd} {us : List Arg} {l1 l2 : List Wd} (h : takeN takeArg (aheadV (opV x).1) ws = some (us, l1)) (h2 : takeNm (formV (opV x).1).1.named l1 = some (nm, l2)) (h3 : takeAll takeArg l2.length l2 = none) : insD p pl lg ov dst x ws = none := by
  unfold insD
  rw [h]
  simp only
  rw [h2]
  simp only
  rw [h3]
  split
  · rfl
  · split <;> rfl
theorem insD_4 {pl lg : Int} {ov : Bool} {dst x nm : Wd} {us vs : List Arg} {l1 l2 : List Wd} (h : takeN takeArg (aheadV (opV x).1) ws = some (us, l1)) (h2 : takeNm (formV (opV x).1).1.named l1 = some (nm, l2)) (h3 : takeAll takeArg l2.length l2 = some vs) (h4 : ((us ++ vs).length : Int) < (formV (opV x).1).1.least ∨ (formV (opV x).1).1.most < ((us ++ vs).length : Int)) : insD p pl lg ov dst x ws = none := by
  unfold insD
  rw [h]
  simp only
  rw [h2]
  simp only
  rw [h3]
  simp only
  rw [if_pos h4]
  split
  · rfl
  · split <;> rfl
theorem insD_5 {pl lg : Int} {ov : Bool} {dst x nm : Wd} {us vs : List Arg} {l1 l2 : List Wd} (h0 : stB pl 480 = true) (h1 : ¬ ((opV x).2 = false ∨ (formV (opV x).1).1.dst ≠ (dst != []))) (h : takeN takeArg (aheadV (opV x).1) ws = some (us, l1)) (h2 : takeNm (formV (opV x).1).1.named l1 = some (nm, l2)) (h3 : takeAll takeArg l2.length l2 = some vs) (h4 : ¬ (((us ++ vs).length : Int) < (formV (opV x).1).1.least ∨ (formV (opV x).1).1.most < ((us ++ vs).length : Int))) :
    insD p pl lg ov dst x ws = some (insP p ⟨(opV x).1, dst, nm, us ++ vs, [], []⟩, behindV (opV x).1, lg + 1, ov || decide (1024 < lg + 1), []) := by
  unfold insD
  rw [if_neg (by rw [h0]; simp), if_neg h1, h]
  simp only
  rw [h2]
  simp only
  rw [h3]
  simp only
  rw [if_neg h4]
end Go.Proofs.YtdgmdpphimenjaaDoor.Rd5
