/-
  Forms Instr Acts Frame Heads Parts Line Line2 Line3 Line4 Good Catch Read
-/
import Derived.Test.YtikfncgdjnljiaaDoorGrA
import Derived.Maps.Own
import Derived.Maps.Views
import Derived.RegionTactic
import Derived.BigRegion
import Derived.ChangeAlike
import Derived.Tactics2
import Derived.Defers
import Derived.Recover
import Derived.Laws.Pointers
/-
  Package syntax: the instructions' forms: sets, named, arguments, ahead, behindInstr, Of, Op.
-/
namespace Go.Proofs.YtikfncgdjnljiaaDoor.Rd5
open Go.RowKit Api Hold Mem Syn WordM Tree

/-- The program's words lie where they are laid. -/
def LaidS (w : World) : Prop := ∀ (i : Nat) (x : Wd), opWords[i]? = some x → w.cell? ⟨0, i, none⟩ = some (str x)
theorem LaidS.lt {w : World} (h : LaidS w) : 0 < w.heap.size := World.block_lt_of_cell? w _ (h 0 _ rfl)
theorem LaidS.of_block {w w' : World} (h : LaidS w) (hb : w'.heap[0]? = w.heap[0]?) : LaidS w' := fun i x hx => (World.cell?_of_block (a := ⟨0, i, none⟩) hb).trans (h i x hx)
theorem LaidS.below {w w' : World} {B : Nat} (h : LaidS w) (hb : Below B w w') (hB : w.heap.size ≤ B) : LaidS w' := h.of_block (hb.block _ (Nat.lt_of_lt_of_le h.lt hB))

def setsV (op : Int) : Bool := op != 27 && op != 30 && op != 33 && op != 34
def namedV (op : Int) : Bool := op == 25 || op == 26 || op == 27 || (decide (29 ≤ op) && decide (op ≤ 32))
def argsN (op : Int) : Int × Int := if op = 22 ∨ op = 23 ∨ op = 24 ∨ op = 26 ∨ op = 30 ∨ op = 33 then (1, 1) else if op = 25 ∨ op = 31 ∨ op = 32 then (0, 8) else if op = 29 ∨ op = 34 then (0, 0) else (2, 2)
set_option maxHeartbeats 1000000 in
theorem sets_any (op : Int) (w : World) : Calls Tryd.prog 77 #[i64 op] w fun e w' => e = .returned (.bool (setsV op)) ∧ w = w' := by
  by_cases h : op = 27 ∨ op = 30 ∨ op = 33 ∨ op = 34
  · rcases h with rfl | rfl | rfl | rfl
    all_goals
      go_enter Tryd.func77, Tryd.ntmps77
      go_wp2
      go_ret
      exact ⟨rfl, rfl⟩
  · have e : setsV op = true := by unfold setsV; simp; omega
    rw [e]
    have h1 : (op == 27) = false := by simp; omega
    have h2 : (op == 30) = false := by simp; omega
    have h3 : (op == 33) = false := by simp; omega
    have h4 : (op == 34) = false := by simp; omega
    clear h e
    go_enter Tryd.func77, Tryd.ntmps77
    go_wp2
    go_ret
    exact ⟨rfl, rfl⟩
set_option maxHeartbeats 2000000 in
theorem named_any (op : Int) (w : World) : Calls Tryd.prog 78 #[i64 op] w fun e w' => e = .returned (.bool (namedV op)) ∧ w = w' := by
  by_cases h : op = 25 ∨ op = 26 ∨ op = 27 ∨ op = 29 ∨ op = 30 ∨ op = 31 ∨ op = 32
  · rcases h with rfl | rfl | rfl | rfl | rfl | rfl | rfl
    all_goals
      go_enter Tryd.func78, Tryd.ntmps78
      go_wp2
      go_ret
      exact ⟨rfl, rfl⟩
  · have e : namedV op = false := by unfold namedV; simp; omega
    rw [e]
    have h1 : (op == 25) = false := by simp; omega
    have h2 : (op == 26) = false := by simp; omega
    have h3 : (op == 27) = false := by simp; omega
    have h4 : (op == 29) = false := by simp; omega
    have h5 : (op == 30) = false := by simp; omega
    have h6 : (op == 31) = false := by simp; omega
    have h7 : (op == 32) = false := by simp; omega
    clear h e
    go_enter Tryd.func78, Tryd.ntmps78
    go_wp2
    go_ret
    exact ⟨rfl, rfl⟩
set_option maxHeartbeats 4000000 in
theorem arguments_any (op : Int) (w : World) : Calls Tryd.prog 79 #[i64 op] w fun e w' => e = .returned (.tuple #[i64 (argsN op).1, i64 (argsN op).2]) ∧ w = w' := by
  by_cases h : op = 22 ∨ op = 23 ∨ op = 24 ∨ op = 25 ∨ op = 26 ∨ op = 29 ∨ op = 30 ∨ op = 31 ∨ op = 32 ∨ op = 33 ∨ op = 34
  · rcases h with rfl | rfl | rfl | rfl | rfl | rfl | rfl | rfl | rfl | rfl | rfl
    all_goals
      go_enter Tryd.func79, Tryd.ntmps79
      go_wp2
      go_ret2
      exact ⟨rfl, rfl⟩
  · have e : argsN op = (2, 2) := by unfold argsN; rw [if_neg (by omega), if_neg (by omega), if_neg (by omega)]
    rw [e]
    have h1 : (op == 22) = false := by simp; omega
    have h2 : (op == 23) = false := by simp; omega
    have h3 : (op == 24) = false := by simp; omega
    have h4 : (op == 25) = false := by simp; omega
    have h5 : (op == 26) = false := by simp; omega
    have h6 : (op == 29) = false := by simp; omega
    have h7 : (op == 30) = false := by simp; omega
    have h8 : (op == 31) = false := by simp; omega
    have h9 : (op == 32) = false := by simp; omega
    have h10 : (op == 33) = false := by simp; omega
    have h11 : (op == 34) = false := by simp; omega
    clear h e
    go_enter Tryd.func79, Tryd.ntmps79
    go_wp2
    go_ret2
    exact ⟨rfl, rfl⟩
def aheadV (op : Int) : Nat := if op = 26 ∨ op = 27 then 1 else 0
def behindV (op : Int) : Int := if op = 31 ∨ op = 34 then 128 else 64
def OfR (W : World) (op : Int) (e : Ending) (w' : World) : Prop := e = .returned (.tuple #[.agg #[str (formV op).1.word, .bool (formV op).1.dst, .bool (formV op).1.named, i64 (formV op).1.least, i64 (formV op).1.most], .bool (formV op).2]) ∧ Below W.heap.size W w'
abbrev zF : Obj := .cells #[str [], .bool false, .bool false, i64 0, i64 0] 97
set_option maxHeartbeats 2000000 in
theorem of_no (op : Int) (w : World) (h : op < 1 ∨ 34 < op) : Calls Tryd.prog 56 #[i64 op] w (OfR w op) := by
  have e : formV op = (⟨[], false, false, 0, 0⟩, false) := by unfold formV; rw [if_pos h]
  unfold OfR
  rw [e]
  clear e
  by_cases h1 : op < 1
  · have e1 : decide (op < 1) = true := decide_eq_true h1
    clear h
    go_enter Tryd.func56, Tryd.ntmps56
    go_wp2
    exact bodyPost_ret (v := .tuple #[.agg #[str [], .bool false, .bool false, i64 0, i64 0], .bool false]) (by rw [results_cell_tmp rfl]; go_simp) rfl ⟨rfl, (Below.refl _ _).alloc (Nat.le_refl _) _⟩
  · have e1 : decide (op < 1) = false := decide_eq_false h1
    have e2 : decide ((34 : Int) < op) = true := decide_eq_true (by omega)
    clear h h1
    go_enter Tryd.func56, Tryd.ntmps56
    go_wp2
    exact bodyPost_ret (v := .tuple #[.agg #[str [], .bool false, .bool false, i64 0, i64 0], .bool false]) (by rw [results_cell_tmp rfl]; go_simp) rfl ⟨rfl, (Below.refl _ _).alloc (Nat.le_refl _) _⟩
set_option maxRecDepth 100000 in
set_option maxHeartbeats 4000000 in
theorem of_yes (k : Nat) (w : World) (hL : LaidS w) (h : 1 ≤ k ∧ k ≤ 34) : Calls Tryd.prog 56 #[i64 (k : Int)] w (OfR w k) := by
  have e : formV (k : Int) = (⟨opWords.getD k [], setsV k, namedV k, (argsN k).1, (argsN k).2⟩, true) := by
    unfold formV
    rw [if_neg (by omega)]
    rfl
  unfold OfR
  rw [e]
  obtain ⟨x, hx⟩ : ∃ x, opWords[k]? = some x := ⟨_, List.getElem?_eq_getElem (by show k < 35; omega)⟩
  have hw : opWords.getD k [] = x := by rw [List.getD_eq_getElem?_getD, hx]; rfl
  rw [hw]
  have c1 := al_cell (x := zF) (hL k x hx)
  have c2 := al_cell (x := zF) c1
  obtain ⟨s, hs⟩ : ∃ s, setsV (k : Int) = s := ⟨_, rfl⟩
  obtain ⟨n, hn⟩ : ∃ n, namedV (k : Int) = n := ⟨_, rfl⟩
  obtain ⟨⟨l, m⟩, hm⟩ : ∃ m, argsN (k : Int) = m := ⟨_, rfl⟩
  have Q1 := Lib.hid (sets_any (k : Int))
  have Q2 := Lib.hid (named_any (k : Int))
  have Q3 := Lib.hid (arguments_any (k : Int))
  rw [hs] at Q1 ⊢
  rw [hn] at Q2 ⊢
  rw [hm] at Q3 ⊢
  simp only at Q3 ⊢
  have hk1 := h.1
  have hk2 := h.2
  have e1 : decide ((k : Int) < 1) = false := decide_eq_false (by omega)
  have e2 : decide ((34 : Int) < (k : Int)) = false := decide_eq_false (by omega)
  have g0 : (0 : Int) ≤ (k : Int) := by omega
  have g1 : (k : Int) < 35 := by omega
  have hlt := hL.lt
  clear h hL hx hw hs hn hm e
  go_enter Tryd.func56, Tryd.ntmps56
  go_wp2
  go_region_law (first
    | (go_simp; go_at_call 77; (with_reducible refine (Q1.out _).mono ?_); rintro e w1 ⟨rfl, rfl⟩)
    | (go_simp; go_at_call 78; (with_reducible refine (Q2.out _).mono ?_); rintro e w1 ⟨rfl, rfl⟩))
  all_goals
    go_wp2_with (go_at_call 79; (with_reducible refine (Q3.out _).mono ?_); rintro e w1 ⟨rfl, rfl⟩)
    exact bodyPost_ret (v := .tuple #[.agg #[str x, .bool s, .bool n, i64 l, i64 m], .bool true]) (by rw [results_cell_tmp rfl]; go_simp) rfl ⟨rfl, (((Below.refl _ _).alloc (Nat.le_refl _) _).alloc (by simp) _).drew⟩
end Go.Proofs.YtikfncgdjnljiaaDoor.Rd5

/-
  Package syntax: an instruction.
-/
namespace Go.Proofs.YtikfncgdjnljiaaDoor.Rd5
open Go.RowKit Api Hold Mem Syn WordM Tree

variable {w w' w1 w2 : World} {lo hi rb base N : Nat} {rc : RC} {v : Value} {l ws : List Wd} {row : Option Nat} {a : Tree.Act} {D D2 : List Rec} {p : Prog} {L T : Rec}
theorem ins_info : (Tryd.prog.info? 59).map (fun i => (i.zero, i.size, i.bytes)) = some (some (.agg #[.int .i64 0, .string ⟨#[]⟩, .string ⟨#[]⟩, .slice none 0 0, .slice none 0 0, .slice none 0 0]), 6, 112) := by kernel_rfl
theorem ones_ins (k : Int) (x y : Wd) (A : Option Addr) (n c : Nat) : ∀ u ∈ [i64 k, str x, str y, .slice A n c, .slice none 0 0, .slice none 0 0], u.oneCell' = true := by
  intro u hu
  simp only [List.mem_cons, List.not_mem_nil, or_false] at hu
  rcases hu with rfl | rfl | rfl | rfl | rfl | rfl <;> rfl
def insP (p : Prog) (y : Instr) : Prog := inB p fun b => { b with code := b.code ++ [y] }
/-- The arguments ahead of the name. -/
def takeN {β : Type} (take : List Wd → Option (β × List Wd)) : Nat → List Wd → Option (List β × List Wd)
  | 0, l => some ([], l)
  | n + 1, l => match take l with | none => none | some (y, l) => (match takeN take n l with | none => none | some (ys, l) => some (y :: ys, l))
/-- The name, if the form has one. -/
def takeNm (b : Bool) (l : List Wd) : Option (Wd × List Wd) := if b then takeName l else some ([], l)
def insD (p : Prog) (pl lg : Int) (ov : Bool) (dst x : Wd) (ws : List Wd) : Out :=
  if stB pl 480 = false then none
  else if (opV x).2 = false ∨ (formV (opV x).1).1.dst ≠ (dst != []) then none
  else match takeN takeArg (aheadV (opV x).1) ws with
  | none => none
  | some (us, l1) => match takeNm (formV (opV x).1).1.named l1 with
    | none => none
    | some (nm, l2) => match takeAll takeArg l2.length l2 with
      | none => none
      | some vs => if ((us ++ vs).length : Int) < (formV (opV x).1).1.least ∨ (formV (opV x).1).1.most < ((us ++ vs).length : Int) then none
        else some (insP p ⟨(opV x).1, dst, nm, us ++ vs, [], []⟩, behindV (opV x).1, lg + 1, ov || decide (1024 < lg + 1), [])
theorem opFrom_lt (x : Wd) (k : Nat) (h : k ≤ 35) (h1 : 1 ≤ k) : (opFrom x k).2 = true → 1 ≤ (opFrom x k).1 ∧ (opFrom x k).1 ≤ 34 := by
  obtain ⟨n, hn⟩ : ∃ n, 35 - k = n := ⟨_, rfl⟩
  induction n generalizing k with
  | zero =>
    rw [opFrom, dif_neg (by omega)]
    intro h; cases h
  | succ n ih =>
    rw [opFrom, dif_pos (by omega)]
    split
    · intro _; simp only; omega
    · exact ih (k + 1) (by omega) (by omega) (by omega)
theorem opV_lt {x : Wd} (h : (opV x).2 = true) : 1 ≤ (opV x).1 ∧ (opV x).1 ≤ 34 := opFrom_lt x 1 (by omega) (by omega) h
theorem opFrom_no (x : Wd) (k : Nat) (h : (opFrom x k).2 = false) : (opFrom x k).1 = 0 := by
  obtain ⟨n, hn⟩ : ∃ n, 35 - k = n := ⟨_, rfl⟩
  induction n generalizing k with
  | zero => rw [opFrom, dif_neg (by omega)]
  | succ n ih =>
    rw [opFrom, dif_pos (by omega)] at h ⊢
    split at h
    · cases h
    · rename_i hne
      rw [if_neg hne]
      exact ih (k + 1) h (by omega)
theorem opV_no {x : Wd} (h : (opV x).2 = false) : (opV x).1 = 0 := opFrom_no x 1 h
theorem of_any5 (op : Nat) (w : World) (hL : LaidS w) : Calls Tryd.prog 56 #[i64 (op : Int)] w (OfR w op) := by
  by_cases h : 1 ≤ op ∧ op ≤ 34
  · exact of_yes op w hL h
  · exact of_no op w (by omega)
theorem shape_monoD (h : Shape a D p) (hD : ∀ F ∈ D, F ∈ D2) : Shape a D2 p := by
  refine ⟨h.c.mono (fun _ _ h => IsClass.mono hD h) fun _ _ h => h, h.g, h.e, h.u.mono (fun _ _ h => IsFunc.mono hD h) fun c x h => ?_⟩
  obtain ⟨e, h1, h2, h3⟩ := h
  refine ⟨e, h1, h2, h3.mono (fun _ _ h => IsBlock.mono hD h) fun c x h => ?_⟩
  obtain ⟨c2, e, h1, h2, h3⟩ := h
  exact ⟨c2, e, h1.mono fun _ _ h => IsPhi.mono hD h, h2.mono (fun _ _ h => IsInstr.mono hD h) fun c x h => QInstr.mono hD h, IsTerm.mono hD h3⟩
abbrev FitI (p : Prog) (pl : Int) : Prop := stB pl 480 = true → p.funcs ≠ [] ∧ lastB p ≠ []
theorem takeN_step {β : Type} {take : List Wd → Option (β × List Wd)} {n m k : Nat} {l ls l2 : List Wd} {us : List β} {y : β} (hm : m = k + 1) (h : takeN take n l = (takeN take m ls).map fun q => (us ++ q.1, q.2)) (h2 : take ls = some (y, l2)) : takeN take n l = (takeN take k l2).map fun q => (us ++ [y] ++ q.1, q.2) := by
  subst hm
  rw [h]
  simp only [takeN]
  rw [h2]
  simp only
  cases takeN take k l2 with
  | none => rfl
  | some q => simp
theorem takeN_bad {β : Type} {take : List Wd → Option (β × List Wd)} {n m k : Nat} {l ls : List Wd} {us : List β} (hm : m = k + 1) (h : takeN take n l = (takeN take m ls).map fun q => (us ++ q.1, q.2)) (h2 : take ls = none) : takeN take n l = none := by
  subst hm
  rw [h]
  simp only [takeN]
  rw [h2]
  rfl
theorem insD_mis {pl lg : Int} {ov : Bool} {dst x : Wd} (h : (opV x).2 = false ∨ (formV (opV x).1).1.dst ≠ (dst != [])) : insD p pl lg ov dst x ws = none := by
  unfold insD
  by_cases hs : stB pl 480 = false
  · rw [if_pos hs]
  · rw [if_neg hs, if_pos h]
theorem insD_1 {pl lg : Int} {ov : Bool} {dst x : Wd} (h : takeN takeArg (aheadV (opV x).1) ws = none) : insD p pl lg ov dst x ws = none := by
  unfold insD
  rw [h]
  split
  · rfl
  · split <;> rfl
theorem insD_2 {pl lg : Int} {ov : Bool} {dst x : Wd} {us : List Arg} {l1 : List Wd} (h : takeN takeArg (aheadV (opV x).1) ws = some (us, l1)) (h2 : takeNm (formV (opV x).1).1.named l1 = none) : insD p pl lg ov dst x ws = none := by
  unfold insD
  rw [h]
  simp only
  rw [h2]
  split
  · rfl
  · split <;> rfl
theorem insD_3 {pl lg : Int} {ov : Bool} {dst x nm : Wd} {us : List Arg} {l1 l2 : List Wd} (h : takeN takeArg (aheadV (opV x).1) ws = some (us, l1)) (h2 : takeNm (formV (opV x).1).1.named l1 = some (nm, l2)) (h3 : takeAll takeArg l2.length l2 = none) : insD p pl lg ov dst x ws = none := by
  unfold insD
  rw [h]
  simp only
  rw [h2]
  simp only
  rw [h3]
  split
  · rfl
  · split <;> rfl
theorem insD_4 {pl lg : Int} {ov : Bool} {dst x nm : Wd} {us vs : List Arg} {l1 l2 : List Wd} (h : takeN takeArg (aheadV (opV x).1) ws = some (us, l1)) (h2 : takeNm (formV (opV x).1).1.named l1 = some (nm, l2)) (h3 : takeAll takeArg l2.length l2 = some vs) (h4 : ((us ++ vs).length : Int) < (formV (opV x).1).1.least ∨ (formV (opV x).1).1.most < ((us ++ vs).length : Int)) : insD p pl lg ov dst x ws = none := by
  unfold insD
  rw [h]
  simp only
  rw [h2]
  simp only
  rw [h3]
  simp only
  rw [if_pos h4]
  split
  · rfl
  · split <;> rfl
theorem insD_5 {pl lg : Int} {ov : Bool} {dst x nm : Wd} {us vs : List Arg} {l1 l2 : List Wd} (h0 : stB pl 480 = true) (h1 : ¬ ((opV x).2 = false ∨ (formV (opV x).1).1.dst ≠ (dst != []))) (h : takeN takeArg (aheadV (opV x).1) ws = some (us, l1)) (h2 : takeNm (formV (opV x).1).1.named l1 = some (nm, l2)) (h3 : takeAll takeArg l2.length l2 = some vs) (h4 : ¬ (((us ++ vs).length : Int) < (formV (opV x).1).1.least ∨ (formV (opV x).1).1.most < ((us ++ vs).length : Int))) :
    insD p pl lg ov dst x ws = some (insP p ⟨(opV x).1, dst, nm, us ++ vs, [], []⟩, behindV (opV x).1, lg + 1, ov || decide (1024 < lg + 1), []) := by
  unfold insD
  rw [if_neg (by rw [h0]; simp), if_neg h1, h]
  simp only
  rw [h2]
  simp only
  rw [h3]
  simp only
  rw [if_neg h4]
end Go.Proofs.YtikfncgdjnljiaaDoor.Rd5

/-
  Package syntax: ssa, act, set.
-/
namespace Go.Proofs.YtikfncgdjnljiaaDoor.Rd5
open Go.RowKit Api Hold Mem Syn WordM Tree

variable {w w' w1 w2 : World} {lo hi rb base N : Nat} {rc : RC} {v : Value} {l ws : List Wd} {row : Option Nat} {a : Tree.Act} {D D2 : List Rec} {p : Prog} {L T : Rec}
def ssaD (p : Prog) (pl lg : Int) (ov : Bool) (ws : List Wd) : Out := if stB pl 1 = false then none else some ({ p with ssa := true }, 2, lg, ov, ws)
theorem ssaD_no {pl lg : Int} {ov : Bool} (h : stB pl 1 = false) : ssaD p pl lg ov ws = none := by unfold ssaD; rw [if_pos h]
def setD (p : Prog) (pl lg : Int) (ov : Bool) (x : Wd) (ws : List Wd) : Out :=
  if nameV x = false then none else match takeWord ws with
  | none => none
  | some (_, l) => match takeWord l with
    | none => none
    | some (y, l) => insD p pl lg ov x y l
theorem setD_no {pl lg : Int} {ov : Bool} {x : Wd} (h : nameV x = false) : setD p pl lg ov x ws = none := by unfold setD; rw [if_pos h]
theorem takeWord_less {y : Wd} (h : takeWord ws = some (y, l)) : l.length + 1 = ws.length := by
  cases ws with
  | nil => cases h
  | cons x m => simp only [takeWord] at h; simp at h; simp [h.2]
theorem setD_1 {pl lg : Int} {ov : Bool} {x : Wd} (h : takeWord ws = none) : setD p pl lg ov x ws = none := by
  unfold setD
  rw [h]
  split <;> rfl
theorem setD_2 {pl lg : Int} {ov : Bool} {x y : Wd} (h : takeWord ws = some (y, l)) (h2 : takeWord l = none) : setD p pl lg ov x ws = none := by
  unfold setD
  rw [h]
  simp only
  rw [h2]
  split <;> rfl
theorem setD_3 {pl lg : Int} {ov : Bool} {x y z : Wd} {l2 : List Wd} (h0 : nameV x = true) (h : takeWord ws = some (y, l)) (h2 : takeWord l = some (z, l2)) : setD p pl lg ov x ws = insD p pl lg ov x z l2 := by
  unfold setD
  rw [if_neg (by rw [h0]; simp), h]
  simp only
  rw [h2]
theorem laid_grown {rb : Nat} (h : LaidS w) (hg : w.grownBy w' (some rb)) (hr : 0 < rb) : LaidS w' := h.of_block (hg.block _ h.lt (by intro e; injection e with e; omega))
end Go.Proofs.YtikfncgdjnljiaaDoor.Rd5

/-
  Package syntax: a frame of a state.
-/
namespace Go.Proofs.YtikfncgdjnljiaaDoor.Rd5
open Go.RowKit Api Hold Mem Syn WordM Tree

variable {w w' w1 w2 : World} {lo hi rb base N : Nat} {rc : RC} {v : Value} {l ws : List Wd} {row : Option Nat} {a : Tree.Act} {D D2 : List Rec} {p : Prog} {L T : Rec}
theorem bind_info : (Tryd.prog.info? 155).map (fun i => (i.zero, i.size, i.bytes)) = some (some (.agg #[.string ⟨#[]⟩, .int .i64 0, .string ⟨#[]⟩, .int .i64 0]), 4, 48) := by kernel_rfl
theorem frm_info : (Tryd.prog.info? 153).map (fun i => (i.zero, i.size, i.bytes)) = some (some (.agg #[.string ⟨#[]⟩, .string ⟨#[]⟩, .int .i64 0, .slice none 0 0]), 4, 64) := by kernel_rfl
theorem ones_frm (x y : Wd) (n : Int) (A : Option Addr) (k c : Nat) : ∀ u ∈ [str x, str y, i64 n, .slice A k c], u.oneCell' = true := by
  intro u hu
  simp only [List.mem_cons, List.not_mem_nil, or_false] at hu
  rcases hu with rfl | rfl | rfl | rfl <;> rfl
def frmP (p : Prog) (y : Api.Frame) : Prog := inB p fun b => { b with code := Syn.last (fun i => { i with frames := i.frames ++ [y] }) b.code }
def takeBind (ws : List Wd) : Option (Bind × List Wd) := match takeName ws with | some (n, l) => (match takeVal l with | some (a, l) => some (⟨n, a⟩, l) | none => none) | none => none
theorem takeBind_1 (h : takeName ws = none) : takeBind ws = none := by unfold takeBind; rw [h]
theorem takeBind_2 {n : Wd} (h : takeName ws = some (n, l)) (h2 : takeVal l = none) : takeBind ws = none := by unfold takeBind; rw [h]; simp only; rw [h2]
theorem takeBind_3 {n : Wd} {x : Arg} {l2 : List Wd} (h : takeName ws = some (n, l)) (h2 : takeVal l = some (x, l2)) : takeBind ws = some (⟨n, x⟩, l2) := by unfold takeBind; rw [h]; simp only; rw [h2]
def frmD (p : Prog) (pl lg : Int) (ov : Bool) (ws : List Wd) : Out :=
  if stB pl 128 = false then none else match takeName ws with
  | none => none
  | some (x, l) => match takeName l with
    | none => none
    | some (y, l) => match takeCount 1024 l with
      | none => none
      | some (n, l) => match takeAll takeBind l.length l with
        | none => none
        | some vs => some (frmP p ⟨x, y, n, vs⟩, pl, lg, (ov || decide ((16 : Int) < (vs.length : Int))) || decide ((16 : Int) < (((theI p).frames.length + 1 : Nat) : Int)), [])
theorem frmD_no {pl lg : Int} {ov : Bool} (h : stB pl 128 = false) : frmD p pl lg ov ws = none := by unfold frmD; rw [if_pos h]
theorem frmD_1 {pl lg : Int} {ov : Bool} (h : takeName ws = none) : frmD p pl lg ov ws = none := by
  unfold frmD
  rw [h]
  split <;> rfl
theorem frmD_2 {pl lg : Int} {ov : Bool} {x : Wd} (h : takeName ws = some (x, l)) (h1 : takeName l = none) : frmD p pl lg ov ws = none := by
  unfold frmD
  rw [h]
  simp only
  rw [h1]
  split <;> rfl
theorem frmD_3 {pl lg : Int} {ov : Bool} {x y : Wd} {l2 : List Wd} (h : takeName ws = some (x, l)) (h1 : takeName l = some (y, l2)) (h2 : takeCount 1024 l2 = none) : frmD p pl lg ov ws = none := by
  unfold frmD
  rw [h]
  simp only
  rw [h1]
  simp only
  rw [h2]
  split <;> rfl
theorem frmD_4 {pl lg : Int} {ov : Bool} {x y : Wd} {l2 l3 : List Wd} {n : Int} (h : takeName ws = some (x, l)) (h1 : takeName l = some (y, l2)) (h2 : takeCount 1024 l2 = some (n, l3)) (h3 : takeAll takeBind l3.length l3 = none) : frmD p pl lg ov ws = none := by
  unfold frmD
  rw [h]
  simp only
  rw [h1]
  simp only
  rw [h2]
  simp only
  rw [h3]
  split <;> rfl
theorem frmD_5 {pl lg : Int} {ov : Bool} {x y : Wd} {l2 l3 : List Wd} {n : Int} {vs : List Bind} (h0 : stB pl 128 = true) (h : takeName ws = some (x, l)) (h1 : takeName l = some (y, l2)) (h2 : takeCount 1024 l2 = some (n, l3)) (h3 : takeAll takeBind l3.length l3 = some vs) : frmD p pl lg ov ws = some (frmP p ⟨x, y, n, vs⟩, pl, lg, (ov || decide ((16 : Int) < (vs.length : Int))) || decide ((16 : Int) < (((theI p).frames.length + 1 : Nat) : Int)), []) := by
  unfold frmD
  rw [if_neg (by rw [h0]; simp), h]
  simp only
  rw [h1]
  simp only
  rw [h2]
  simp only
  rw [h3]
theorem takeCount_less {m n : Int} (h : takeCount m ws = some (n, l)) : l.length + 1 = ws.length := by
  unfold takeCount at h
  cases hv : takeNum ws with
  | none => rw [hv] at h; cases h
  | some q =>
    obtain ⟨q1, q2⟩ := q
    rw [hv] at h
    simp only at h
    split at h
    · cases h
    · simp at h
      cases ws with
      | nil => cases hv
      | cons x m =>
        simp only [takeNum] at hv
        split at hv
        · simp at hv; rw [← h.2, ← hv.2]; simp
        · cases hv

end Go.Proofs.YtikfncgdjnljiaaDoor.Rd5

/-
  Package syntax: a line that is no part of a function: class, global, extern, func.
-/
namespace Go.Proofs.YtikfncgdjnljiaaDoor.Rd5
open Go.RowKit Api Hold Mem Syn WordM Tree

variable {w w' w1 w2 : World} {lo hi rb base N : Nat} {rc : RC} {v : Value} {l ws : List Wd} {row : Option Nat} {a : Tree.Act} {D : List Rec} {p : Prog}
theorem cls_info : (Tryd.prog.info? 36).map (fun i => (i.zero, i.size, i.bytes)) = some (some (.agg #[.string ⟨#[]⟩, .slice none 0 0]), 2, 40) := by kernel_rfl
theorem var_info : (Tryd.prog.info? 40).map (fun i => (i.zero, i.size, i.bytes)) = some (some (.agg #[.string ⟨#[]⟩, .string ⟨#[]⟩]), 2, 32) := by kernel_rfl
theorem ext_info : (Tryd.prog.info? 47).map (fun i => (i.zero, i.size, i.bytes)) = some (some (.agg #[.string ⟨#[]⟩, .int .i64 0]), 2, 24) := by kernel_rfl
theorem fn_info : (Tryd.prog.info? 30).map (fun i => (i.zero, i.size, i.bytes)) = some (some (.agg #[.string ⟨#[]⟩, .string ⟨#[]⟩, .slice none 0 0, .slice none 0 0, .slice none 0 0]), 5, 104) := by kernel_rfl
theorem ones_class (x : Wd) : ∀ u ∈ [str x, .slice none 0 0], u.oneCell' = true := by
  intro u hu
  simp only [List.mem_cons, List.not_mem_nil, or_false] at hu
  rcases hu with rfl | rfl <;> rfl
theorem ones_var (x y : Wd) : ∀ u ∈ [str x, str y], u.oneCell' = true := by
  intro u hu
  simp only [List.mem_cons, List.not_mem_nil, or_false] at hu
  rcases hu with rfl | rfl <;> rfl
theorem ones_ext (x : Wd) (n : Int) : ∀ u ∈ [str x, i64 n], u.oneCell' = true := by
  intro u hu
  simp only [List.mem_cons, List.not_mem_nil, or_false] at hu
  rcases hu with rfl | rfl <;> rfl
theorem ones_fn (x y : Wd) : ∀ u ∈ [str x, str y, .slice none 0 0, .slice none 0 0, .slice none 0 0], u.oneCell' = true := by
  intro u hu
  simp only [List.mem_cons, List.not_mem_nil, or_false] at hu
  rcases hu with rfl | rfl | rfl | rfl | rfl <;> rfl

/-- class. -/
def classD (p : Prog) (pl lg : Int) (ws : List Wd) : Out :=
  if stB pl 519 = false then none else match takeName ws with
  | none => none
  | some (x, l) => some ({ p with classes := p.classes ++ [⟨x, []⟩] }, 4, lg, decide ((8 : Int) < ((p.classes.length + 1 : Nat) : Int)), l)
theorem classD_none {pl lg : Int} (h : takeName ws = none) : classD p pl lg ws = none := by
  unfold classD
  rw [h]
  split <;> rfl
theorem classD_no {pl lg : Int} (h : stB pl 519 = false) : classD p pl lg ws = none := by unfold classD; rw [if_pos h]
/-- global. -/
def globalD (p : Prog) (pl lg : Int) (ws : List Wd) : Out :=
  if stB pl 519 = false then none else match takeVar ws with
  | none => none
  | some (y, l) => some ({ p with globals := p.globals ++ [y] }, 2, lg, decide ((8 : Int) < ((p.globals.length + 1 : Nat) : Int)), l)
theorem globalD_none {pl lg : Int} (h : takeVar ws = none) : globalD p pl lg ws = none := by
  unfold globalD
  rw [h]
  split <;> rfl
theorem globalD_no {pl lg : Int} (h : stB pl 519 = false) : globalD p pl lg ws = none := by unfold globalD; rw [if_pos h]
/-- extern. -/
def externD (p : Prog) (pl lg : Int) (ws : List Wd) : Out :=
  if stB pl 519 = false then none else match takeName ws with
  | none => none
  | some (x, l) => match takeCount 8 l with
    | none => none
    | some (n, l) => some ({ p with externs := p.externs ++ [⟨x, n⟩] }, 2, lg, decide ((8 : Int) < ((p.externs.length + 1 : Nat) : Int)), l)
theorem externD_none {pl lg : Int} (h : takeName ws = none) : externD p pl lg ws = none := by
  unfold externD
  rw [h]
  split <;> rfl
theorem externD_none2 {pl lg : Int} {x : Wd} (h : takeName ws = some (x, l)) (h2 : takeCount 8 l = none) : externD p pl lg ws = none := by
  unfold externD
  rw [h]
  simp only
  rw [h2]
  split <;> rfl
theorem externD_no {pl lg : Int} (h : stB pl 519 = false) : externD p pl lg ws = none := by unfold externD; rw [if_pos h]
/-- function. -/
def funcD (p : Prog) (pl _ : Int) (ws : List Wd) : Out :=
  if stB pl 519 = false then none else match takeName ws with
  | none => none
  | some (x, l) => match takeKind l with
    | none => none
    | some (z, l) => some ({ p with funcs := p.funcs ++ [⟨x, z, [], [], []⟩] }, 8, 0, decide ((8 : Int) < ((p.funcs.length + 1 : Nat) : Int)), l)
theorem funcD_none {pl lg : Int} (h : takeName ws = none) : funcD p pl lg ws = none := by
  unfold funcD
  rw [h]
  split <;> rfl
theorem funcD_none2 {pl lg : Int} {x : Wd} (h : takeName ws = some (x, l)) (h2 : takeKind l = none) : funcD p pl lg ws = none := by
  unfold funcD
  rw [h]
  simp only
  rw [h2]
  split <;> rfl
theorem funcD_no {pl lg : Int} (h : stB pl 519 = false) : funcD p pl lg ws = none := by unfold funcD; rw [if_pos h]
end Go.Proofs.YtikfncgdjnljiaaDoor.Rd5

/-
  Package syntax: lines that grow a row of the last class, or of the last function: field, param, variable, block.
-/
namespace Go.Proofs.YtikfncgdjnljiaaDoor.Rd5
open Go.RowKit Api Hold Mem Syn WordM Tree

variable {w w' w1 w2 : World} {lo hi rb base N : Nat} {rc : RC} {v : Value} {l ws : List Wd} {row : Option Nat} {a : Tree.Act} {D : List Rec} {p : Prog}
theorem blk_info : (Tryd.prog.info? 94).map (fun i => (i.zero, i.size, i.bytes)) = some (some (.agg #[.string ⟨#[]⟩, .slice none 0 0, .slice none 0 0, .int .i64 0, .int .i64 0, .string ⟨#[]⟩, .int .i64 0, .slice none 0 0, .int .i64 0]), 9, 136) := by kernel_rfl
theorem ones_blk (x : Wd) : ∀ u ∈ (str x :: .slice none 0 0 :: .slice none 0 0 :: nilTerm), u.oneCell' = true := by
  intro u hu
  simp only [nilTerm, List.mem_cons, List.not_mem_nil, or_false] at hu
  rcases hu with rfl | rfl | rfl | rfl | rfl | rfl | rfl | rfl | rfl <;> rfl
/-- field. -/
def fieldD (p : Prog) (pl lg : Int) (ws : List Wd) : Out :=
  if stB pl 4 = false then none else match takeVar ws with
  | none => none
  | some (y, l) => some ({ p with classes := Syn.last (fun c => { c with fields := c.fields ++ [y] }) p.classes }, pl, lg, decide ((8 : Int) < (((p.classes.getLast?.getD ⟨[], []⟩).fields.length + 1 : Nat) : Int)), l)
theorem fieldD_none {pl lg : Int} (h : takeVar ws = none) : fieldD p pl lg ws = none := by
  unfold fieldD
  rw [h]
  split <;> rfl
theorem fieldD_no {pl lg : Int} (h : stB pl 4 = false) : fieldD p pl lg ws = none := by unfold fieldD; rw [if_pos h]
/-- param. -/
def paramD (p : Prog) (pl lg : Int) (ws : List Wd) : Out :=
  if stB pl 8 = false then none else match takeVar ws with
  | none => none
  | some (y, l) => some ({ p with funcs := Syn.last (fun f => { f with params := f.params ++ [y] }) p.funcs }, pl, lg, decide ((6 : Int) < (((p.funcs.getLast?.getD funcZ).params.length + 1 : Nat) : Int)), l)
theorem paramD_none {pl lg : Int} (h : takeVar ws = none) : paramD p pl lg ws = none := by
  unfold paramD
  rw [h]
  split <;> rfl
theorem paramD_no {pl lg : Int} (h : stB pl 8 = false) : paramD p pl lg ws = none := by unfold paramD; rw [if_pos h]
/-- variable. -/
def varD (p : Prog) (pl lg : Int) (ws : List Wd) : Out :=
  if stB pl 24 = false then none else match takeVar ws with
  | none => none
  | some (y, l) => some ({ p with funcs := Syn.last (fun f => { f with vars := f.vars ++ [y] }) p.funcs }, 16, lg, decide ((1024 : Int) < (((p.funcs.getLast?.getD funcZ).vars.length + 1 : Nat) : Int)), l)
theorem varD_none {pl lg : Int} (h : takeVar ws = none) : varD p pl lg ws = none := by
  unfold varD
  rw [h]
  split <;> rfl
theorem varD_no {pl lg : Int} (h : stB pl 24 = false) : varD p pl lg ws = none := by unfold varD; rw [if_pos h]
/-- block. -/
def blockD (p : Prog) (pl lg : Int) (ws : List Wd) : Out :=
  if stB pl 536 = false then none else match takeName ws with
  | none => none
  | some (x, l) => some ({ p with funcs := Syn.last (fun f => { f with blocks := f.blocks ++ [⟨x, [], [], termZ⟩] }) p.funcs }, 32, lg, decide ((256 : Int) < (((p.funcs.getLast?.getD funcZ).blocks.length + 1 : Nat) : Int)), l)
theorem blockD_none {pl lg : Int} (h : takeName ws = none) : blockD p pl lg ws = none := by
  unfold blockD
  rw [h]
  split <;> rfl
theorem blockD_no {pl lg : Int} (h : stB pl 536 = false) : blockD p pl lg ws = none := by unfold blockD; rw [if_pos h]
end Go.Proofs.YtikfncgdjnljiaaDoor.Rd5

/-
  Package syntax: the map of its readers, and a line.
-/
namespace Go.Proofs.YtikfncgdjnljiaaDoor.Rd5
open Go.RowKit Api Hold Mem Syn WordM Tree Go.Maps

variable {w w' w1 w2 : World} {lo hi rb base N : Nat} {rc : RC} {v : Value} {l ws : List Wd} {row : Option Nat} {a : Tree.Act} {D D2 : List Rec} {p : Prog} {L T : Rec}
/-- How a function value among a map's elements reads: its number; -1: nil. -/
def fnElem (v : Value) : Option (DataW Unit × List MemPlace) :=
  match v with
  | .nilFunc => some (.lit (.int .i64 (-1)), [])
  | .func (.func n) ⟨[]⟩ ⟨[]⟩ => some (.lit (.int .i64 (n : Int)), [])
  | _ => none
theorem fnElem_inv {v : Value} {k : Int} {ps : List MemPlace} (h : fnElem v = some (.lit (.int .i64 k), ps)) : (k = -1 ∧ v = .nilFunc) ∨ ∃ n : Nat, k = (n : Int) ∧ v = .func (.func n) #[] #[] := by
  unfold fnElem at h
  split at h
  · injection h with h; injection h with h _; injection h with h; injection h with _ h; exact .inl ⟨h.symm, rfl⟩
  · injection h with h; injection h with h _; injection h with h; injection h with _ h; exact .inr ⟨_, h.symm, rfl⟩
  · cases h
theorem put_at {D : DataW Unit} {d z : DataW Unit} (h : IsMap D) (x y : Wd) : (D.put (.string y) d).atKey (.string x) z = if x = y then d else D.atKey (.string x) z := by
  by_cases e : x = y
  · subst e
    rw [if_pos rfl]
    exact atKey_put_same h (by simp [WideAt.IsKeyLit]) d z
  · rw [if_neg e]
    exact atKey_put_other (by intro h; injection h with h; exact e h) d z
theorem put_step {D : DataW Unit} {a b : Int} {x y : Wd} {z : DataW Unit} (h : IsMap D) (e : D.atKey (.string x) z = .lit (.int .i64 b)) : (D.put (.string y) (.lit (.int .i64 a))).atKey (.string x) z = .lit (.int .i64 (if x = y then a else b)) := by
  rw [put_at h, e]; split <;> rfl
theorem law5 : Keyed Tryd.prog 9 := string_keyed Tryd.underlying9
theorem wpList_insert {P : Program} (w : World) {ops : Array Oper} {rest : List Oper} {o : Oper} {a : Go.Act} {Q : Exit → Go.Act → World → Prop}
    (hg : o.guard = none) (m x v : Operand) (t : TypeId) (hop : o.op = Op.insert t m x v)
    (k e : TypeId) (K : Keyed P k) (ht : P.underlying t = some (.map k e)) (R : Value → Option (DataW Unit × List MemPlace)) (b n : Nat) (D : DataW Unit)
    (hm : a.eval m = .map (some b)) (hown : w.ownsMap P k R b n D) (hn : n < maxLen) (key val : Value) (kl : Lit) (hx : a.eval x = key) (hv : a.eval v = val) (hkey : keyOf P k key = some kl)
    (d : DataW Unit) (ps : List MemPlace) (hval : R val = some (d, ps))
    (hK : ∀ w', w'.ownsMap P k R b (n + 1) (D.put kl d) → w.grownBy w' (some b) → wpList P ops Q rest (a.put o.dst undef) w') :
    wpList P ops Q (o :: rest) a w := by
  refine wpList_plain hg fun K' hK' => ?_
  obtain ⟨w', hrun, r1, r2⟩ := hown.update K ht hn hkey hval
  unfold Oper.wp
  simp [execOp, hop, hm, hx, hv, hrun, Result.andThen]
  exact hK' _ _ (hK w' r1 r2)
end Go.Proofs.YtikfncgdjnljiaaDoor.Rd5

/-
  Package syntax: what reads a line, by its first word.
-/
namespace Go.Proofs.YtikfncgdjnljiaaDoor.Rd5
open Go.RowKit Api Hold Mem Syn WordM Tree

variable {w w' w1 w2 : World} {lo hi rb base N : Nat} {rc : RC} {v : Value} {l ws : List Wd} {row : Option Nat} {a : Tree.Act} {D D2 : List Rec} {p : Prog} {L T : Rec}
/-- What stands where: where a part of a function may stand there is a function, and so on. -/
structure Fits (p : Prog) (pl : Int) : Prop where
  cls : stB pl 4 = true → p.classes ≠ []
  par : stB pl 8 = true → p.funcs ≠ []
  var : stB pl 24 = true → p.funcs ≠ []
  blk : stB pl 536 = true → p.funcs ≠ []
  fb : FitB p pl
  fi : FitI p pl
  obj : stB pl 384 = true → p.funcs ≠ [] ∧ lastB p ≠ [] ∧ (theB p).code ≠ []
  frm : stB pl 128 = true → p.funcs ≠ [] ∧ lastB p ≠ [] ∧ (theB p).code ≠ []
  phi : stB pl 32 = true → p.funcs ≠ [] ∧ lastB p ≠ []
/-- A line by its first word. -/
def dispD (p : Prog) (pl lg : Int) (x : Wd) (ws : List Wd) : Out :=
  if x = [116, 114, 97, 112] then trapD p pl lg false ws else if x = [114, 101, 116] then retD p pl lg false ws else if x = [98, 114, 97, 110, 99, 104] then branchD p pl lg false ws else if x = [106, 117, 109, 112] then jumpD p pl lg false ws else if x = [111, 98, 106] then objD p pl lg false ws else if x = [97, 116] then frmD p pl lg false ws else if x = [103, 117, 97, 114, 100] then insD p pl lg false [] x ws else if x = [111, 117, 116] then insD p pl lg false [] x ws else if x = [103, 115, 116, 111, 114, 101] then insD p pl lg false [] x ws else if x = [115, 116, 111, 114, 101] then insD p pl lg false [] x ws else if x = [112, 104, 105] then phiD p pl lg false ws else if x = [98, 108, 111, 99, 107] then blockD p pl lg ws else if x = [118, 97, 114] then varD p pl lg ws else if x = [112, 97, 114, 97, 109] then paramD p pl lg ws else if x = [102, 117, 110, 99] then funcD p pl lg ws else if x = [101, 120, 116, 101, 114, 110] then externD p pl lg ws else if x = [103, 108, 111, 98, 97, 108] then globalD p pl lg ws else if x = [102, 105, 101, 108, 100] then fieldD p pl lg ws else if x = [99, 108, 97, 115, 115] then classD p pl lg ws else if x = [115, 115, 97] then ssaD p pl lg false ws else none
theorem enters {P : Program} {f : FuncId} {fn : Func} {c : Code} (hf : P.funcs[f]? = some fn) (hname : (fn.name == "runtime.NumGoroutine") = false) (hb : fn.body = some c) (args : Array Value) (w : World) :
    (callFunc f args).run P w = .ok (.enter f args) w := by
  have h1 : fn.name ≠ "runtime.NumGoroutine" := by simpa using hname
  simp [callFunc, go_sem, hf, h1, hb]
/-- A line. -/
def lineO (p : Prog) (pl lg : Int) (x : Wd) (l : List Wd) : Out := if l.head? = some [61] then setD p pl lg false x l else dispD p pl lg x l
/-- What a line's reading leaves: a panic with its error; or the program, the place, how long. -/
def lineE (o : Out) : Except Int (Prog × Int × Int) := match o with
  | none => .error 3
  | some (p, pl, lg, ov, ws) => if ws ≠ [] then .error 3 else if ov then .error 2 else .ok (p, pl, lg)
end Go.Proofs.YtikfncgdjnljiaaDoor.Rd5

/-
  Package syntax: a line.
-/
namespace Go.Proofs.YtikfncgdjnljiaaDoor.Rd5
open Go.RowKit Api Hold Mem Syn WordM Tree Go.Maps

variable {w w' w1 w2 : World} {lo hi rb base N : Nat} {rc : RC} {v : Value} {l ws : List Wd} {row : Option Nat} {a : Tree.Act} {D D2 : List Rec} {p : Prog} {L T : Rec}
theorem Ws.some {y : Wd} (h : Ws lo hi w v (y :: l)) : ∃ A m cap, v = .slice A m cap ∧ (0 : Int) < (m : Int) := by
  obtain ⟨A, n, cap, b, off, e, hn, _⟩ := h
  exact ⟨A, n, cap, e, by simp at hn; omega⟩
theorem xsize {x : Wd} (h : x.length ≤ 4194304) : (⟨x.toArray⟩ : ByteArray).size ≤ maxLen := by
  have : (⟨x.toArray⟩ : ByteArray).size = x.length := by show x.toArray.size = _; simp
  unfold maxLen; omega
end Go.Proofs.YtikfncgdjnljiaaDoor.Rd5

/-
  Package syntax: a line, whatever its words.
-/
namespace Go.Proofs.YtikfncgdjnljiaaDoor.Rd5
open Go.RowKit Api Hold Mem Syn WordM Tree Go.Maps

variable {w w' w1 w2 : World} {lo hi rb base N : Nat} {rc : RC} {v : Value} {l ws : List Wd} {row : Option Nat} {a : Tree.Act} {D D2 : List Rec} {p : Prog} {L T : Rec}
/-- Lines, one behind the other: the state; or the line's number and the error. -/
def readE : Prog × Int × Int → List (Nat × List Wd) → Except (Nat × Int) (Prog × Int × Int)
  | s, [] => .ok s
  | s, (k, ws) :: l => match lineE (lineO s.1 s.2.1 s.2.2 (ws.headD []) ws.tail) with
    | .error e => .error (k, e)
    | .ok s' => readE s' l
/-- A text's lines: the program; or a line's number and the error. -/
def parseE (l : List (Nat × List Wd)) : Except (Nat × Int) Prog := match readE (⟨false, [], [], [], []⟩, 1, 0) l with
  | .error e => .error e
  | .ok (p, pl, _) => if stB pl 519 = true then .ok p else .error (0, 3)
theorem readE_snoc (s : Prog × Int × Int) (l : List (Nat × List Wd)) (x : Nat × List Wd) : readE s (l ++ [x]) = match readE s l with
    | .error e => .error e
    | .ok s' => readE s' [x] := by
  induction l generalizing s with
  | nil => rfl
  | cons y l ih =>
    obtain ⟨k, ws⟩ := y
    simp only [List.cons_append, readE]
    cases lineE (lineO s.1 s.2.1 s.2.2 (ws.headD []) ws.tail) with
    | error e => rfl
    | ok s' => exact ih s'
end Go.Proofs.YtikfncgdjnljiaaDoor.Rd5

/-
  Package syntax: what stands where is kept by every line.
-/
namespace Go.Proofs.YtikfncgdjnljiaaDoor.Rd5
open Go.RowKit Api Hold Mem Syn WordM Tree

variable {l ws : List Wd} {p p2 : Prog} {pl lg pl2 lg2 : Int}
/-- What has been read stands as it should. -/
structure Good (p : Prog) (pl lg : Int) : Prop where
  spot : pl = 1 ∨ pl = 2 ∨ pl = 4 ∨ pl = 8 ∨ pl = 16 ∨ pl = 32 ∨ pl = 64 ∨ pl = 128 ∨ pl = 256 ∨ pl = 512
  cls : pl = 4 → p.classes ≠ []
  fn : 8 ≤ pl → p.funcs ≠ []
  blk : 32 ≤ pl → pl ≤ 256 → lastB p ≠ []
  ins : 128 ≤ pl → pl ≤ 256 → (theB p).code ≠ []
  long : 0 ≤ lg ∧ lg ≤ 1024
theorem Good.start : Good ⟨false, [], [], [], []⟩ 1 0 := ⟨by simp, by decide, by decide, by decide, by decide, by decide⟩
theorem Good.fits (h : Good p pl lg) : Fits p pl := by
  obtain ⟨h1, h2, h3, h4, h5, _⟩ := h
  rcases h1 with rfl | rfl | rfl | rfl | rfl | rfl | rfl | rfl | rfl | rfl
  all_goals
    refine ⟨fun h => ?_, fun h => ?_, fun h => ?_, fun h => ?_, fun h => ?_, fun h => ?_, fun h => ?_, fun h => ?_, fun h => ?_⟩
    all_goals first
      | (exact absurd h (by decide))
      | exact h2 rfl
      | exact h3 (by decide)
      | exact ⟨h3 (by decide), h4 (by decide) (by decide), h5 (by decide) (by decide)⟩
      | exact ⟨h3 (by decide), h4 (by decide) (by decide)⟩
theorem lastB_in {f : Api.Block → Api.Block} (h : p.funcs ≠ []) : lastB (inB p f) = Syn.last f (lastB p) := by
  unfold lastB inB
  rw [getD_last h]
theorem theB_in {f : Api.Block → Api.Block} (h : p.funcs ≠ []) (hb : lastB p ≠ []) : theB (inB p f) = f (theB p) := by
  unfold theB
  rw [lastB_in h, getD_last hb]
/-- What a line leaves, if it is not refused. -/
def GoodO (o : Out) : Prop := ∀ p2 pl2 lg2 l, o = some (p2, pl2, lg2, false, l) → Good p2 pl2 lg2
theorem Good.inner {f : Api.Block → Api.Block} (h : Good p pl lg) (hs : stB pl 480 = true) (hp : pl2 = 32 ∨ pl2 = 64 ∨ pl2 = 128 ∨ pl2 = 256 ∨ pl2 = 512) (hc : 128 ≤ pl2 → pl2 ≤ 256 → (f (theB p)).code ≠ []) (hl : 0 ≤ lg2 ∧ lg2 ≤ 1024) : Good (inB p f) pl2 lg2 := by
  obtain ⟨h1, h2⟩ := h.fits.fi hs
  refine ⟨by omega, by omega, fun _ => last_none h1, fun _ _ => ?_, fun k1 k2 => ?_, hl⟩
  · rw [lastB_in h1]; exact last_none h2
  · rw [theB_in h1 h2]; exact hc k1 k2
theorem st_32 (h : Good p pl lg) (hs : stB pl 32 = true) : pl = 32 ∧ stB pl 480 = true := by
  rcases h.spot with rfl | rfl | rfl | rfl | rfl | rfl | rfl | rfl | rfl | rfl <;> first | exact ⟨rfl, by decide⟩ | exact absurd hs (by decide)
theorem st_128 (h : Good p pl lg) (hs : stB pl 128 = true) : pl = 128 ∧ stB pl 480 = true := by
  rcases h.spot with rfl | rfl | rfl | rfl | rfl | rfl | rfl | rfl | rfl | rfl <;> first | exact ⟨rfl, by decide⟩ | exact absurd hs (by decide)
theorem st_384 (h : Good p pl lg) (hs : stB pl 384 = true) : 128 ≤ pl ∧ pl ≤ 256 ∧ stB pl 480 = true := by
  rcases h.spot with rfl | rfl | rfl | rfl | rfl | rfl | rfl | rfl | rfl | rfl <;> first | exact ⟨by decide, by decide, by decide⟩ | exact absurd hs (by decide)
theorem st_4 (h : Good p pl lg) (hs : stB pl 4 = true) : pl = 4 := by
  rcases h.spot with rfl | rfl | rfl | rfl | rfl | rfl | rfl | rfl | rfl | rfl <;> first | rfl | exact absurd hs (by decide)
theorem st_8 (h : Good p pl lg) (hs : stB pl 8 = true) : pl = 8 := by
  rcases h.spot with rfl | rfl | rfl | rfl | rfl | rfl | rfl | rfl | rfl | rfl <;> first | rfl | exact absurd hs (by decide)
theorem good_end {ov : Bool} {t : Api.Term} (h : Good p pl lg) : GoodO (endD p pl lg ov t ws) := by
  intro p2 pl2 lg2 l e
  unfold endD at e
  split at e
  · cases e
  · rename_i hs
    have hs : stB pl 480 = true := by simpa using hs
    simp only [Option.some.injEq, Prod.mk.injEq] at e
    obtain ⟨rfl, rfl, rfl, -, -⟩ := e
    exact h.inner hs (by simp) (by omega) h.long
theorem good_class (h : Good p pl lg) : GoodO (classD p pl lg ws) := by
  intro p2 pl2 lg2 l e
  unfold classD at e
  repeat' split at e
  all_goals first | (cases e; done) | skip
  simp only [Option.some.injEq, Prod.mk.injEq] at e
  obtain ⟨rfl, rfl, rfl, -, -⟩ := e
  exact ⟨by simp, fun _ => by simp, by omega, by omega, by omega, h.long⟩
theorem good_global (h : Good p pl lg) : GoodO (globalD p pl lg ws) := by
  intro p2 pl2 lg2 l e
  unfold globalD at e
  repeat' split at e
  all_goals first | (cases e; done) | skip
  simp only [Option.some.injEq, Prod.mk.injEq] at e
  obtain ⟨rfl, rfl, rfl, -, -⟩ := e
  exact ⟨by simp, by omega, by omega, by omega, by omega, h.long⟩
theorem good_extern (h : Good p pl lg) : GoodO (externD p pl lg ws) := by
  intro p2 pl2 lg2 l e
  unfold externD at e
  repeat' split at e
  all_goals first | (cases e; done) | skip
  simp only [Option.some.injEq, Prod.mk.injEq] at e
  obtain ⟨rfl, rfl, rfl, -, -⟩ := e
  exact ⟨by simp, by omega, by omega, by omega, by omega, h.long⟩
theorem good_func : GoodO (funcD p pl lg ws) := by
  intro p2 pl2 lg2 l e
  unfold funcD at e
  repeat' split at e
  all_goals first | (cases e; done) | skip
  simp only [Option.some.injEq, Prod.mk.injEq] at e
  obtain ⟨rfl, rfl, rfl, -, -⟩ := e
  exact ⟨by simp, by omega, fun _ => by simp, by omega, by omega, by decide⟩
theorem good_field (h : Good p pl lg) : GoodO (fieldD p pl lg ws) := by
  intro p2 pl2 lg2 l e
  unfold fieldD at e
  split at e
  · cases e
  · rename_i hs
    have hs : stB pl 4 = true := by simpa using hs
    have hp := st_4 h hs
    repeat' split at e
    all_goals first | (cases e; done) | skip
    simp only [Option.some.injEq, Prod.mk.injEq] at e
    obtain ⟨rfl, rfl, rfl, -, -⟩ := e
    exact ⟨h.spot, fun k => last_none (h.cls k), by omega, by omega, by omega, h.long⟩
theorem good_param (h : Good p pl lg) : GoodO (paramD p pl lg ws) := by
  intro p2 pl2 lg2 l e
  unfold paramD at e
  split at e
  · cases e
  · rename_i hs
    have hs : stB pl 8 = true := by simpa using hs
    have hp := st_8 h hs
    repeat' split at e
    all_goals first | (cases e; done) | skip
    simp only [Option.some.injEq, Prod.mk.injEq] at e
    obtain ⟨rfl, rfl, rfl, -, -⟩ := e
    exact ⟨h.spot, by omega, fun k => last_none (h.fn k), by omega, by omega, h.long⟩
theorem good_var (h : Good p pl lg) : GoodO (varD p pl lg ws) := by
  intro p2 pl2 lg2 l e
  unfold varD at e
  split at e
  · cases e
  · rename_i hs
    have hs : stB pl 24 = true := by simpa using hs
    repeat' split at e
    all_goals first | (cases e; done) | skip
    simp only [Option.some.injEq, Prod.mk.injEq] at e
    obtain ⟨rfl, rfl, rfl, -, -⟩ := e
    exact ⟨by simp, by omega, fun _ => last_none (h.fits.var hs), by omega, by omega, h.long⟩
theorem good_block (h : Good p pl lg) : GoodO (blockD p pl lg ws) := by
  intro p2 pl2 lg2 l e
  unfold blockD at e
  split at e
  · cases e
  · rename_i hs
    have hs : stB pl 536 = true := by simpa using hs
    repeat' split at e
    all_goals first | (cases e; done) | skip
    simp only [Option.some.injEq, Prod.mk.injEq] at e
    obtain ⟨rfl, rfl, rfl, -, -⟩ := e
    refine ⟨by simp, by omega, fun _ => last_none (h.fits.blk hs), fun _ _ => ?_, by omega, h.long⟩
    unfold lastB
    rw [getD_last (h.fits.blk hs)]
    simp
theorem good_jump {ov : Bool} (h : Good p pl lg) : GoodO (jumpD p pl lg ov ws) := by
  intro p2 pl2 lg2 l e
  unfold jumpD at e
  repeat' split at e
  all_goals first | (cases e; done) | exact good_end h _ _ _ _ e
theorem good_ret {ov : Bool} (h : Good p pl lg) : GoodO (retD p pl lg ov ws) := by
  intro p2 pl2 lg2 l e
  unfold retD at e
  repeat' split at e
  all_goals first | (cases e; done) | exact good_end h _ _ _ _ e
theorem good_trap {ov : Bool} (h : Good p pl lg) : GoodO (trapD p pl lg ov ws) := by
  intro p2 pl2 lg2 l e
  unfold trapD at e
  repeat' split at e
  all_goals first | (cases e; done) | exact good_end h _ _ _ _ e
theorem good_branch {ov : Bool} (h : Good p pl lg) : GoodO (branchD p pl lg ov ws) := by
  intro p2 pl2 lg2 l e
  unfold branchD at e
  repeat' split at e
  all_goals first | (cases e; done) | exact good_end h _ _ _ _ e
theorem good_obj {ov : Bool} (h : Good p pl lg) : GoodO (objD p pl lg ov ws) := by
  intro p2 pl2 lg2 l e
  unfold objD at e
  split at e
  · cases e
  · rename_i hs
    have hs : stB pl 384 = true := by simpa using hs
    obtain ⟨k1, k2, k3⟩ := st_384 h hs
    repeat' split at e
    all_goals first | (cases e; done) | skip
    simp only [Option.some.injEq, Prod.mk.injEq] at e
    obtain ⟨rfl, rfl, rfl, -, -⟩ := e
    exact h.inner k3 (by simp) (fun _ _ => last_none (h.ins k1 k2)) h.long
theorem good_frm {ov : Bool} (h : Good p pl lg) : GoodO (frmD p pl lg ov ws) := by
  intro p2 pl2 lg2 l e
  unfold frmD at e
  split at e
  · cases e
  · rename_i hs
    have hs : stB pl 128 = true := by simpa using hs
    obtain ⟨k1, k3⟩ := st_128 h hs
    repeat' split at e
    all_goals first | (cases e; done) | skip
    simp only [Option.some.injEq, Prod.mk.injEq] at e
    obtain ⟨rfl, rfl, rfl, -, -⟩ := e
    exact h.inner k3 (by omega) (fun _ _ => last_none (h.ins (by omega) (by omega))) h.long
theorem good_phi {ov : Bool} (h : Good p pl lg) : GoodO (phiD p pl lg ov ws) := by
  intro p2 pl2 lg2 l e
  unfold phiD at e
  split at e
  · cases e
  · rename_i hs
    have hs : stB pl 32 = true := by simpa using hs
    obtain ⟨k1, k3⟩ := st_32 h hs
    repeat' split at e
    all_goals first | (cases e; done) | skip
    simp only [Option.some.injEq, Prod.mk.injEq] at e
    obtain ⟨rfl, rfl, rfl, ho, -⟩ := e
    simp only [Bool.or_eq_false_iff, decide_eq_false_iff_not] at ho
    have := h.long
    exact h.inner k3 (by omega) (by omega) (by omega)
theorem good_ins {ov : Bool} {dst x : Wd} (h : Good p pl lg) : GoodO (insD p pl lg ov dst x ws) := by
  intro p2 pl2 lg2 l e
  unfold insD at e
  split at e
  · cases e
  · rename_i hs
    have hs : stB pl 480 = true := by simpa using hs
    repeat' split at e
    all_goals first | (cases e; done) | skip
    simp only [Option.some.injEq, Prod.mk.injEq] at e
    obtain ⟨rfl, rfl, rfl, ho, -⟩ := e
    simp only [Bool.or_eq_false_iff, decide_eq_false_iff_not] at ho
    have := h.long
    refine h.inner hs ?_ (fun _ _ => by simp) (by omega)
    unfold behindV
    split <;> simp
theorem good_ssa {ov : Bool} (h : Good p pl lg) : GoodO (ssaD p pl lg ov ws) := by
  intro p2 pl2 lg2 l e
  unfold ssaD at e
  split at e
  · cases e
  · simp only [Option.some.injEq, Prod.mk.injEq] at e
    obtain ⟨rfl, rfl, rfl, -, -⟩ := e
    exact ⟨by simp, by omega, by omega, by omega, by omega, h.long⟩
theorem good_set {ov : Bool} {x : Wd} (h : Good p pl lg) : GoodO (setD p pl lg ov x ws) := by
  intro p2 pl2 lg2 l e
  unfold setD at e
  repeat' split at e
  all_goals first | (cases e; done) | exact good_ins h _ _ _ _ e
theorem good_ite {c : Prop} [Decidable c] {x y : Out} (hx : GoodO x) (hy : GoodO y) : GoodO (if c then x else y) := by
  by_cases h : c
  · rw [if_pos h]; exact hx
  · rw [if_neg h]; exact hy
theorem good_disp {x : Wd} (h : Good p pl lg) : GoodO (dispD p pl lg x ws) := by
  unfold dispD
  exact good_ite (good_trap h) (good_ite (good_ret h) (good_ite (good_branch h) (good_ite (good_jump h) (good_ite (good_obj h) (good_ite (good_frm h) (good_ite (good_ins h) (good_ite (good_ins h) (good_ite (good_ins h) (good_ite (good_ins h) (good_ite (good_phi h) (good_ite (good_block h) (good_ite (good_var h) (good_ite (good_param h) (good_ite (good_func) (good_ite (good_extern h) (good_ite (good_global h) (good_ite (good_field h) (good_ite (good_class h) (good_ite (good_ssa h) (fun _ _ _ _ e => by cases e))))))))))))))))))))
theorem good_line {x : Wd} (h : Good p pl lg) (e : lineE (lineO p pl lg x l) = .ok (p2, pl2, lg2)) : Good p2 pl2 lg2 := by
  have hg : GoodO (lineO p pl lg x l) := by
    unfold lineO
    split
    · exact good_set h
    · exact good_disp h
  unfold lineE at e
  repeat' split at e
  all_goals first | (cases e; done) | skip
  rename_i p3 pl3 lg3 ov ws ho _ hov
  simp only [Except.ok.injEq, Prod.mk.injEq] at e
  obtain ⟨rfl, rfl, rfl⟩ := e
  have : ov = false := by simpa using hov
  subst this
  exact hg _ _ _ _ ho
end Go.Proofs.YtikfncgdjnljiaaDoor.Rd5

/-
  Package syntax: what read defers: it recovers.
-/
namespace Go.Proofs.YtikfncgdjnljiaaDoor.Rd5
open Go.RowKit Mem

end Go.Proofs.YtikfncgdjnljiaaDoor.Rd5

/-
  Package syntax: the lines, one behind the other.
-/
namespace Go.Proofs.YtikfncgdjnljiaaDoor.Rd5
open Go.RowKit Api Hold Mem Syn WordM Tree Go.Maps

variable {w w' w1 w2 : World} {lo hi rb base N : Nat} {rc : RC} {v : Value} {l ws : List Wd} {row : Option Nat} {a : Tree.Act} {D D2 : List Rec} {p : Prog} {L T : Rec}
def act0 : Tree.Act := ⟨.empty 36 2, .empty 40 2, .empty 40 2, .empty 47 2, .empty 30 5, .empty 40 2, .empty 40 2, .empty 94 9, .empty 123 2, .empty 59 6, .empty 153 4, .empty 157 2⟩
def prog0 : Prog := ⟨false, [], [], [], []⟩
theorem build0 (w : World) (base : Nat) : Build w base act0 [] prog0 0 := by
  have h0 : Apart w base [] := ⟨fun _ h => absurd h (List.not_mem_nil), by simp⟩
  refine ⟨?_, Shape.start, fun r hr => ?_⟩
  · show Apart w base (act0.l ++ [])
    rw [List.append_nil]
    exact ((((((((((((h0.empty _ _).empty _ _).empty _ _).empty _ _).empty _ _).empty _ _).empty _ _).empty _ _).empty _ _).empty _ _).empty _ _).empty _ _)
  · simp only [act0, Tree.Act.l, List.mem_cons, List.not_mem_nil, or_false] at hr
    rcases hr with rfl | rfl | rfl | rfl | rfl | rfl | rfl | rfl | rfl | rfl | rfl | rfl <;> exact Nat.le_refl 0
/-- The reader ahead of the first line. -/
def rc0 : RC := ⟨.bool false, .slice none 0 0, .slice none 0 0, .slice none 0 0, .slice none 0 0, 1, 0, .string ⟨#[]⟩, .slice none 0 0, false⟩
/-- A row of lines: each has words. -/
def LinsR (lo hi : Nat) (w : World) (b off : Nat) (l : List (Nat × List Wd)) : Prop :=
  ∀ i x, l[i]? = some x → ∃ lv, lo ≤ b ∧ b < hi ∧ w.cell? ⟨b, off + i * 2, none⟩ = some (i64 (x.1 : Int)) ∧ w.cell? ⟨b, off + i * 2 + 1, none⟩ = some lv ∧ lv.oneCell' = true ∧ Ws lo hi w lv x.2 ∧ x.2 ≠ [] ∧ x.2.length ≤ 4194304
theorem LinsR.move {l : List (Nat × List Wd)} {b off : Nat} (h : LinsR lo hi w b off l) (hk : ∀ k, lo ≤ k → k < hi → w'.heap[k]? = w.heap[k]?) : LinsR lo hi w' b off l := by
  intro i x hx
  obtain ⟨lv, h1, h2, h3, h4, h5, h6, h7, h8⟩ := h i x hx
  exact ⟨lv, h1, h2, (World.cell?_of_block (w := w) (hk b h1 h2)).trans h3, (World.cell?_of_block (w := w) (hk b h1 h2)).trans h4, h5, h6.move hk, h7, h8⟩
theorem readE_err {s : Prog × Int × Int} {l1 l2 : List (Nat × List Wd)} {x : Nat × Int} (h : readE s l1 = .error x) : readE s (l1 ++ l2) = .error x := by
  induction l1 generalizing s with
  | nil => cases h
  | cons y l ih =>
    obtain ⟨k, ws⟩ := y
    simp only [List.cons_append, readE] at h ⊢
    cases hE : lineE (lineO s.1 s.2.1 s.2.2 (ws.headD []) ws.tail) with
    | error e => rw [hE] at h; exact h
    | ok s' => rw [hE] at h; exact ih h
theorem beside_down {B : Nat} (h : Below B w w1) (h2 : Beside base rb w1 w2) (hB : B ≤ base) : Beside B rb w w2 :=
  ⟨h2.os.trans h.os, h2.tape.trans h.tape, h2.output.trans h.output, Nat.le_trans h.size h2.size, fun k hk hn => (h2.block k (by omega) hn).trans (h.block k hk)⟩
end Go.Proofs.YtikfncgdjnljiaaDoor.Rd5
