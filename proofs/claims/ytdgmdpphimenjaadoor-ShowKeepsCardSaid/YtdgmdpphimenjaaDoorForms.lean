/-
  Package syntax: the instructions' forms: sets, named, arguments, ahead, behindInstr, Of, Op.
-/
import Derived.Test.YtdgmdpphimenjaaDoorPhi
namespace Go.Proofs.YtdgmdpphimenjaaDoor.Rd5
open Go.RowKit Api Hold Mem Syn WordM Tree

/-- The program's words lie where they are laid. -/
def LaidS (w : World) : Prop := ∀ (i : Nat) (x : Wd), opWords[i]? = some x → w.cell? ⟨1, i, none⟩ = some (str x)
theorem LaidS.lt {w : World} (h : LaidS w) : 1 < w.heap.size := World.block_lt_of_cell? w _ (h 0 _ rfl)
theorem LaidS.of_block {w w' : World} (h : LaidS w) (hb : w'.heap[1]? = w.heap[1]?) : LaidS w' := fun i x hx => (World.cell?_of_block (a := ⟨1, i, none⟩) hb).trans (h i x hx)
theorem LaidS.below {w w' : World} {B : Nat} (h : LaidS w) (hb : Below B w w') (hB : w.heap.size ≤ B) : LaidS w' := h.of_block (hb.block _ (Nat.lt_of_lt_of_le h.lt hB))

def setsV (op : Int) : Bool := op != 27 && op != 30 && op != 33 && op != 34
def namedV (op : Int) : Bool := op == 25 || op == 26 || op == 27 || (decide (29 ≤ op) && decide (op ≤ 32))
def argsN (op : Int) : Int × Int := if op = 22 ∨ op = 23 ∨ op = 24 ∨ op = 26 ∨ op = 30 ∨ op = 33 then (1, 1) else if op = 25 ∨ op = 31 ∨ op = 32 then (0, 8) else if op = 29 ∨ op = 34 then (0, 0) else (2, 2)
set_option maxHeartbeats 1000000 in
theorem sets_any (op : Int) (w : World) : Calls Tryd.prog 128 #[i64 op] w fun e w' => e = .returned (.bool (setsV op)) ∧ w = w' := by
  by_cases h : op = 27 ∨ op = 30 ∨ op = 33 ∨ op = 34
  · rcases h with rfl | rfl | rfl | rfl
    all_goals
      go_enter Tryd.func128, Tryd.ntmps128
      go_wp2
      go_ret
      exact ⟨rfl, rfl⟩
  · have e : setsV op = true := by unfold setsV; simp; omega
    rw [e]
    have h1 : (op == 27) = false := by simp; omega
    have h2 : (op == 30) = false := by simp; omega
    have h3 : (op == 33) = false := by simp; omega
    have h4 : (op == 34) = false := by simp; omega
    clear h e
    go_enter Tryd.func128, Tryd.ntmps128
    go_wp2
    go_ret
    exact ⟨rfl, rfl⟩
set_option maxHeartbeats 2000000 in
theorem named_any (op : Int) (w : World) : Calls Tryd.prog 129 #[i64 op] w fun e w' => e = .returned (.bool (namedV op)) ∧ w = w' := by
  by_cases h : op = 25 ∨ op = 26 ∨ op = 27 ∨ op = 29 ∨ op = 30 ∨ op = 31 ∨ op = 32
  · rcases h with rfl | rfl | rfl | rfl | rfl | rfl | rfl
    all_goals
      go_enter Tryd.func129, Tryd.ntmps129
      go_wp2
      go_ret
      exact ⟨rfl, rfl⟩
  · have e : namedV op = false := by unfold namedV; simp; omega
    rw [e]
    have h1 : (op == 25) = false := by simp; omega
    have h2 : (op == 26) = false := by simp; omega
    have h3 : (op == 27) = false := by simp; omega
    have h4 : (op == 29) = false := by simp; omega
    have h5 : (op == 30) = false := by simp; omega
    have h6 : (op == 31) = false := by simp; omega
    have h7 : (op == 32) = false := by simp; omega
    clear h e
    go_enter Tryd.func129, Tryd.ntmps129
    go_wp2
    go_ret
    exact ⟨rfl, rfl⟩
set_option maxHeartbeats 4000000 in
theorem arguments_any (op : Int) (w : World) : Calls Tryd.prog 130 #[i64 op] w fun e w' => e = .returned (.tuple #[i64 (argsN op).1, i64 (argsN op).2]) ∧ w = w' := by
  by_cases h : op = 22 ∨ op = 23 ∨ op = 24 ∨ op = 25 ∨ op = 26 ∨ op = 29 ∨ op = 30 ∨ op = 31 ∨ op = 32 ∨ op = 33 ∨ op = 34
  · rcases h with rfl | rfl | rfl | rfl | rfl | rfl | rfl | rfl | rfl | rfl | rfl
    all_goals
      go_enter Tryd.func130, Tryd.ntmps130
      go_wp2
      go_ret2
      exact ⟨rfl, rfl⟩
  · have e : argsN op = (2, 2) := by unfold argsN; rw [if_neg (by omega), if_neg (by omega), if_neg (by omega)]
    rw [e]
    have h1 : (op == 22) = false := by simp; omega
    have h2 : (op == 23) = false := by simp; omega
    have h3 : (op == 24) = false := by simp; omega
    have h4 : (op == 25) = false := by simp; omega
    have h5 : (op == 26) = false := by simp; omega
    have h6 : (op == 29) = false := by simp; omega
    have h7 : (op == 30) = false := by simp; omega
    have h8 : (op == 31) = false := by simp; omega
    have h9 : (op == 32) = false := by simp; omega
    have h10 : (op == 33) = false := by simp; omega
    have h11 : (op == 34) = false := by simp; omega
    clear h e
    go_enter Tryd.func130, Tryd.ntmps130
    go_wp2
    go_ret2
    exact ⟨rfl, rfl⟩
def aheadV (op : Int) : Nat := if op = 26 ∨ op = 27 then 1 else 0
def behindV (op : Int) : Int := if op = 31 ∨ op = 34 then 128 else 64
def OfR (W : World) (op : Int) (e : Ending) (w' : World) : Prop := e = .returned (.tuple #[.agg #[str (formV op).1.word, .bool (formV op).1.dst, .bool (formV op).1.named, i64 (formV op).1.least, i64 (formV op).1.most], .bool (formV op).2]) ∧ Below W.heap.size W w'
abbrev zF : Obj := .cells #[str [], .bool false, .bool false, i64 0, i64 0] 186
set_option maxHeartbeats 2000000 in
theorem of_no (op : Int) (w : World) (h : op < 1 ∨ 34 < op) : Calls Tryd.prog 111 #[i64 op] w (OfR w op) := by
  have e : formV op = (⟨[], false, false, 0, 0⟩, false) := by unfold formV; rw [if_pos h]
  unfold OfR
  rw [e]
  clear e
  by_cases h1 : op < 1
  · have e1 : decide (op < 1) = true := decide_eq_true h1
    clear h
    go_enter Tryd.func111, Tryd.ntmps111
    go_wp2
    exact bodyPost_ret (v := .tuple #[.agg #[str [], .bool false, .bool false, i64 0, i64 0], .bool false]) (by rw [results_cell_tmp rfl]; go_simp) rfl ⟨rfl, (Below.refl _ _).alloc (Nat.le_refl _) _⟩
  · have e1 : decide (op < 1) = false := decide_eq_false h1
    have e2 : decide ((34 : Int) < op) = true := decide_eq_true (by omega)
    clear h h1
    go_enter Tryd.func111, Tryd.ntmps111
    go_wp2
    exact bodyPost_ret (v := .tuple #[.agg #[str [], .bool false, .bool false, i64 0, i64 0], .bool false]) (by rw [results_cell_tmp rfl]; go_simp) rfl ⟨rfl, (Below.refl _ _).alloc (Nat.le_refl _) _⟩
set_option maxRecDepth 100000 in
set_option maxHeartbeats 4000000 in
theorem of_yes (k : Nat) (w : World) (hL : LaidS w) (h : 1 ≤ k ∧ k ≤ 34) : Calls Tryd.prog 111 #[i64 (k : Int)] w (OfR w k) := by
  have e : formV (k : Int) = (⟨opWords.getD k [], setsV k, namedV k, (argsN k).1, (argsN k).2⟩, true) := by
    unfold formV
    rw [if_neg (by omega)]
    rfl
  unfold OfR
  rw [e]
  obtain ⟨x, hx⟩ : ∃ x, opWords[k]? = some x := ⟨_, List.getElem?_eq_getElem (by show k < 35; omega)⟩
  have hw : opWords.getD k [] = x := by rw [List.getD_eq_getElem?_getD, hx]; rfl
  rw [hw]
  have c1 := al_cell (x := zF) (hL k x hx)
  have c2 := al_cell (x := zF) c1
  obtain ⟨s, hs⟩ : ∃ s, setsV (k : Int) = s := ⟨_, rfl⟩
  obtain ⟨n, hn⟩ : ∃ n, namedV (k : Int) = n := ⟨_, rfl⟩
  obtain ⟨⟨l, m⟩, hm⟩ : ∃ m, argsN (k : Int) = m := ⟨_, rfl⟩
  have Q1 := Lib.hid (sets_any (k : Int))
  have Q2 := Lib.hid (named_any (k : Int))
  have Q3 := Lib.hid (arguments_any (k : Int))
  rw [hs] at Q1 ⊢
  rw [hn] at Q2 ⊢
  rw [hm] at Q3 ⊢
  simp only at Q3 ⊢
  have hk1 := h.1
  have hk2 := h.2
  have e1 : decide ((k : Int) < 1) = false := decide_eq_false (by omega)
  have e2 : decide ((34 : Int) < (k : Int)) = false := decide_eq_false (by omega)
  have g0 : (0 : Int) ≤ (k : Int) := by omega
  have g1 : (k : Int) < 35 := by omega
  have hlt := hL.lt
  clear h hL hx hw hs hn hm e
  go_enter Tryd.func111, Tryd.ntmps111
  go_wp2
  go_region_law (first
    | (go_simp; go_at_call 128; (with_reducible refine (Q1.out _).mono ?_); rintro e w1 ⟨rfl, rfl⟩)
    | (go_simp; go_at_call 129; (with_reducible refine (Q2.out _).mono ?_); rintro e w1 ⟨rfl, rfl⟩))
  all_goals
    go_wp2_with (go_at_call 130; (with_reducible refine (Q3.out _).mono ?_); rintro e w1 ⟨rfl, rfl⟩)
    exact bodyPost_ret (v := .tuple #[.agg #[str x, .bool s, .bool n, i64 l, i64 m], .bool true]) (by rw [results_cell_tmp rfl]; go_simp) rfl ⟨rfl, (((Below.refl _ _).alloc (Nat.le_refl _) _).alloc (by simp) _).drew⟩
end Go.Proofs.YtdgmdpphimenjaaDoor.Rd5
