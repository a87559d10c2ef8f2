/-
  Ref05O Laid
-/
import Derived.Test.YtdgmdpphimenjaaDoorProg
import Derived.Test.YtdgmdpphimenjaaDoorPlainS
import Derived.Test.YtdgmdpphimenjaaDoorHold
import Derived.Lib.Hide
import Derived.Lib.Walk
import Derived.Test.YtdgmdpphimenjaaDoorRows
import Derived.Lib.LaidU8
import Derived.LaidMore
import Derived.MakeChecks
import Derived.KernelRfl
/-
  The document's own package of layer 5: Op, Of, walked.
-/
namespace Go.Proofs.YtdgmdpphimenjaaDoor.R05
open Go.RowKit Api Hold Mem Syn WordM

/-- The document's words lie where they are laid. -/
def Laid (w : World) : Prop := ∀ (i : Nat) (x : Wd), opWords[i]? = some x → w.cell? ⟨0, i, none⟩ = some (str x)
theorem Laid.lt {w : World} (h : Laid w) : 0 < w.heap.size := World.block_lt_of_cell? w _ (h 0 _ rfl)
theorem Laid.below {w w' : World} {B : Nat} (h : Laid w) (hb : Below B w w') (hB : w.heap.size ≤ B) : Laid w' := fun i x hx => (hb.cell (p := ⟨0, i, none⟩) (Nat.lt_of_lt_of_le h.lt hB)).trans (h i x hx)
theorem ret2_int {a b : Int} {c : Bool} (h : a = b) : Ending.returned (.tuple #[.int .i64 a, .bool c]) = .returned (.tuple #[.int .i64 b, .bool c]) := by rw [h]

/-- A form as a value. -/
def fformC (f : Syn.Form) : Value := .agg #[str f.word, .bool f.dst, .bool f.named, i64 f.least, i64 f.most]

set_option maxRecDepth 100000 in
set_option maxHeartbeats 1000000 in
theorem of_none (op : Int) (w : World) (h : op < 1 ∨ 34 < op) :
    Calls Tryd.prog 43 #[i64 op] w fun e w' => e = .returned (.tuple #[fformC (formV op).1, .bool (formV op).2]) ∧ Below w.heap.size w w' := by
  have hf : formV op = (⟨[], false, false, 0, 0⟩, false) := by unfold formV; rw [if_pos h]
  rw [hf]
  clear hf
  rcases Bool.eq_false_or_eq_true (decide (op < 1)) with a | a
  all_goals rcases Bool.eq_false_or_eq_true (decide (34 < op)) with b | b
  case inr.inr => simp at a b; omega
  all_goals
    clear h
    go_enter Tryd.func43, Tryd.ntmps43
    go_wp2
    refine bodyPost_ret (v := .tuple #[.agg #[.string ⟨#[]⟩, .bool false, .bool false, .int .i64 0, .int .i64 0], .bool false]) (by rw [results_cell_tmp rfl]; go_simp) rfl ⟨rfl, ?_⟩
    exact (Below.refl w.heap.size w).alloc (Nat.le_refl _) _

/-- What a form's own blocks leave. -/
theorem two_made {w : World} {x y : Obj} : Below w.heap.size w ((w.alloc x).alloc y) := ((Below.refl _ _).alloc (Nat.le_refl _) x).alloc (by simp) y
theorem word_at {w : World} {op : Nat} {x : Wd} {o : Obj} (hx : opWords[op]? = some x) (hL : Laid w) : (w.alloc o).cell? ⟨0, op, none⟩ = some (.string ⟨x.toArray⟩) :=
  (((Below.refl w.heap.size w).alloc (Nat.le_refl _) _).cell (p := ⟨0, op, none⟩) hL.lt).trans (hL op x hx)
theorem word_as {w : World} {op : Nat} {x : Wd} {o : Obj} {z : ByteArray} (hx : opWords[op]? = some x) (hL : Laid w) (hz : z = ⟨x.toArray⟩) : (w.alloc o).cell? ⟨0, op, none⟩ = some (.string z) := by
  rw [hz]; exact word_at hx hL
theorem hide_word (x : Wd) : ∃ z : ByteArray, Hid (z = ⟨x.toArray⟩) := ⟨_, Lib.hid rfl⟩
/-- What Of answers. -/
def OfPost (w : World) (op : Int) (e : Ending) (w' : World) : Prop := e = .returned (.tuple #[fformC (formV op).1, .bool (formV op).2]) ∧ Below w.heap.size w w'

set_option maxRecDepth 100000 in
theorem of_1 (w : World) (hL : Laid w) : Calls Tryd.prog 43 #[i64 1] w (OfPost w 1) := by
  obtain ⟨z, HZ⟩ := hide_word (opWords.getD 1 [])
  have c1 := word_as (o := .cells #[.string ⟨#[]⟩, .bool false, .bool false, i64 0, i64 0] 103) (x := opWords.getD 1 []) (op := 1) rfl hL HZ.out
  clear hL
  go_enter Tryd.func43, Tryd.ntmps43
  go_wp2
  exact bodyPost_ret (v := .tuple #[.agg #[.string z, .bool true, .bool false, .int .i64 2, .int .i64 2], .bool true]) (by rw [results_cell_tmp rfl]; go_simp) rfl ⟨by rw [HZ.out]; rfl, two_made⟩

set_option maxRecDepth 100000 in
theorem of_2 (w : World) (hL : Laid w) : Calls Tryd.prog 43 #[i64 2] w (OfPost w 2) := by
  obtain ⟨z, HZ⟩ := hide_word (opWords.getD 2 [])
  have c1 := word_as (o := .cells #[.string ⟨#[]⟩, .bool false, .bool false, i64 0, i64 0] 103) (x := opWords.getD 2 []) (op := 2) rfl hL HZ.out
  clear hL
  go_enter Tryd.func43, Tryd.ntmps43
  go_wp2
  exact bodyPost_ret (v := .tuple #[.agg #[.string z, .bool true, .bool false, .int .i64 2, .int .i64 2], .bool true]) (by rw [results_cell_tmp rfl]; go_simp) rfl ⟨by rw [HZ.out]; rfl, two_made⟩

set_option maxRecDepth 100000 in
theorem of_3 (w : World) (hL : Laid w) : Calls Tryd.prog 43 #[i64 3] w (OfPost w 3) := by
  obtain ⟨z, HZ⟩ := hide_word (opWords.getD 3 [])
  have c1 := word_as (o := .cells #[.string ⟨#[]⟩, .bool false, .bool false, i64 0, i64 0] 103) (x := opWords.getD 3 []) (op := 3) rfl hL HZ.out
  clear hL
  go_enter Tryd.func43, Tryd.ntmps43
  go_wp2
  exact bodyPost_ret (v := .tuple #[.agg #[.string z, .bool true, .bool false, .int .i64 2, .int .i64 2], .bool true]) (by rw [results_cell_tmp rfl]; go_simp) rfl ⟨by rw [HZ.out]; rfl, two_made⟩

set_option maxRecDepth 100000 in
theorem of_4 (w : World) (hL : Laid w) : Calls Tryd.prog 43 #[i64 4] w (OfPost w 4) := by
  obtain ⟨z, HZ⟩ := hide_word (opWords.getD 4 [])
  have c1 := word_as (o := .cells #[.string ⟨#[]⟩, .bool false, .bool false, i64 0, i64 0] 103) (x := opWords.getD 4 []) (op := 4) rfl hL HZ.out
  clear hL
  go_enter Tryd.func43, Tryd.ntmps43
  go_wp2
  exact bodyPost_ret (v := .tuple #[.agg #[.string z, .bool true, .bool false, .int .i64 2, .int .i64 2], .bool true]) (by rw [results_cell_tmp rfl]; go_simp) rfl ⟨by rw [HZ.out]; rfl, two_made⟩

set_option maxRecDepth 100000 in
theorem of_5 (w : World) (hL : Laid w) : Calls Tryd.prog 43 #[i64 5] w (OfPost w 5) := by
  obtain ⟨z, HZ⟩ := hide_word (opWords.getD 5 [])
  have c1 := word_as (o := .cells #[.string ⟨#[]⟩, .bool false, .bool false, i64 0, i64 0] 103) (x := opWords.getD 5 []) (op := 5) rfl hL HZ.out
  clear hL
  go_enter Tryd.func43, Tryd.ntmps43
  go_wp2
  exact bodyPost_ret (v := .tuple #[.agg #[.string z, .bool true, .bool false, .int .i64 2, .int .i64 2], .bool true]) (by rw [results_cell_tmp rfl]; go_simp) rfl ⟨by rw [HZ.out]; rfl, two_made⟩

set_option maxRecDepth 100000 in
theorem of_6 (w : World) (hL : Laid w) : Calls Tryd.prog 43 #[i64 6] w (OfPost w 6) := by
  obtain ⟨z, HZ⟩ := hide_word (opWords.getD 6 [])
  have c1 := word_as (o := .cells #[.string ⟨#[]⟩, .bool false, .bool false, i64 0, i64 0] 103) (x := opWords.getD 6 []) (op := 6) rfl hL HZ.out
  clear hL
  go_enter Tryd.func43, Tryd.ntmps43
  go_wp2
  exact bodyPost_ret (v := .tuple #[.agg #[.string z, .bool true, .bool false, .int .i64 2, .int .i64 2], .bool true]) (by rw [results_cell_tmp rfl]; go_simp) rfl ⟨by rw [HZ.out]; rfl, two_made⟩

set_option maxRecDepth 100000 in
theorem of_7 (w : World) (hL : Laid w) : Calls Tryd.prog 43 #[i64 7] w (OfPost w 7) := by
  obtain ⟨z, HZ⟩ := hide_word (opWords.getD 7 [])
  have c1 := word_as (o := .cells #[.string ⟨#[]⟩, .bool false, .bool false, i64 0, i64 0] 103) (x := opWords.getD 7 []) (op := 7) rfl hL HZ.out
  clear hL
  go_enter Tryd.func43, Tryd.ntmps43
  go_wp2
  exact bodyPost_ret (v := .tuple #[.agg #[.string z, .bool true, .bool false, .int .i64 2, .int .i64 2], .bool true]) (by rw [results_cell_tmp rfl]; go_simp) rfl ⟨by rw [HZ.out]; rfl, two_made⟩

set_option maxRecDepth 100000 in
theorem of_8 (w : World) (hL : Laid w) : Calls Tryd.prog 43 #[i64 8] w (OfPost w 8) := by
  obtain ⟨z, HZ⟩ := hide_word (opWords.getD 8 [])
  have c1 := word_as (o := .cells #[.string ⟨#[]⟩, .bool false, .bool false, i64 0, i64 0] 103) (x := opWords.getD 8 []) (op := 8) rfl hL HZ.out
  clear hL
  go_enter Tryd.func43, Tryd.ntmps43
  go_wp2
  exact bodyPost_ret (v := .tuple #[.agg #[.string z, .bool true, .bool false, .int .i64 2, .int .i64 2], .bool true]) (by rw [results_cell_tmp rfl]; go_simp) rfl ⟨by rw [HZ.out]; rfl, two_made⟩

set_option maxRecDepth 100000 in
theorem of_9 (w : World) (hL : Laid w) : Calls Tryd.prog 43 #[i64 9] w (OfPost w 9) := by
  obtain ⟨z, HZ⟩ := hide_word (opWords.getD 9 [])
  have c1 := word_as (o := .cells #[.string ⟨#[]⟩, .bool false, .bool false, i64 0, i64 0] 103) (x := opWords.getD 9 []) (op := 9) rfl hL HZ.out
  clear hL
  go_enter Tryd.func43, Tryd.ntmps43
  go_wp2
  exact bodyPost_ret (v := .tuple #[.agg #[.string z, .bool true, .bool false, .int .i64 2, .int .i64 2], .bool true]) (by rw [results_cell_tmp rfl]; go_simp) rfl ⟨by rw [HZ.out]; rfl, two_made⟩

set_option maxRecDepth 100000 in
theorem of_10 (w : World) (hL : Laid w) : Calls Tryd.prog 43 #[i64 10] w (OfPost w 10) := by
  obtain ⟨z, HZ⟩ := hide_word (opWords.getD 10 [])
  have c1 := word_as (o := .cells #[.string ⟨#[]⟩, .bool false, .bool false, i64 0, i64 0] 103) (x := opWords.getD 10 []) (op := 10) rfl hL HZ.out
  clear hL
  go_enter Tryd.func43, Tryd.ntmps43
  go_wp2
  exact bodyPost_ret (v := .tuple #[.agg #[.string z, .bool true, .bool false, .int .i64 2, .int .i64 2], .bool true]) (by rw [results_cell_tmp rfl]; go_simp) rfl ⟨by rw [HZ.out]; rfl, two_made⟩

set_option maxRecDepth 100000 in
theorem of_11 (w : World) (hL : Laid w) : Calls Tryd.prog 43 #[i64 11] w (OfPost w 11) := by
  obtain ⟨z, HZ⟩ := hide_word (opWords.getD 11 [])
  have c1 := word_as (o := .cells #[.string ⟨#[]⟩, .bool false, .bool false, i64 0, i64 0] 103) (x := opWords.getD 11 []) (op := 11) rfl hL HZ.out
  clear hL
  go_enter Tryd.func43, Tryd.ntmps43
  go_wp2
  exact bodyPost_ret (v := .tuple #[.agg #[.string z, .bool true, .bool false, .int .i64 2, .int .i64 2], .bool true]) (by rw [results_cell_tmp rfl]; go_simp) rfl ⟨by rw [HZ.out]; rfl, two_made⟩

set_option maxRecDepth 100000 in
theorem of_12 (w : World) (hL : Laid w) : Calls Tryd.prog 43 #[i64 12] w (OfPost w 12) := by
  obtain ⟨z, HZ⟩ := hide_word (opWords.getD 12 [])
  have c1 := word_as (o := .cells #[.string ⟨#[]⟩, .bool false, .bool false, i64 0, i64 0] 103) (x := opWords.getD 12 []) (op := 12) rfl hL HZ.out
  clear hL
  go_enter Tryd.func43, Tryd.ntmps43
  go_wp2
  exact bodyPost_ret (v := .tuple #[.agg #[.string z, .bool true, .bool false, .int .i64 2, .int .i64 2], .bool true]) (by rw [results_cell_tmp rfl]; go_simp) rfl ⟨by rw [HZ.out]; rfl, two_made⟩

set_option maxRecDepth 100000 in
theorem of_13 (w : World) (hL : Laid w) : Calls Tryd.prog 43 #[i64 13] w (OfPost w 13) := by
  obtain ⟨z, HZ⟩ := hide_word (opWords.getD 13 [])
  have c1 := word_as (o := .cells #[.string ⟨#[]⟩, .bool false, .bool false, i64 0, i64 0] 103) (x := opWords.getD 13 []) (op := 13) rfl hL HZ.out
  clear hL
  go_enter Tryd.func43, Tryd.ntmps43
  go_wp2
  exact bodyPost_ret (v := .tuple #[.agg #[.string z, .bool true, .bool false, .int .i64 2, .int .i64 2], .bool true]) (by rw [results_cell_tmp rfl]; go_simp) rfl ⟨by rw [HZ.out]; rfl, two_made⟩

set_option maxRecDepth 100000 in
theorem of_14 (w : World) (hL : Laid w) : Calls Tryd.prog 43 #[i64 14] w (OfPost w 14) := by
  obtain ⟨z, HZ⟩ := hide_word (opWords.getD 14 [])
  have c1 := word_as (o := .cells #[.string ⟨#[]⟩, .bool false, .bool false, i64 0, i64 0] 103) (x := opWords.getD 14 []) (op := 14) rfl hL HZ.out
  clear hL
  go_enter Tryd.func43, Tryd.ntmps43
  go_wp2
  exact bodyPost_ret (v := .tuple #[.agg #[.string z, .bool true, .bool false, .int .i64 2, .int .i64 2], .bool true]) (by rw [results_cell_tmp rfl]; go_simp) rfl ⟨by rw [HZ.out]; rfl, two_made⟩

set_option maxRecDepth 100000 in
theorem of_15 (w : World) (hL : Laid w) : Calls Tryd.prog 43 #[i64 15] w (OfPost w 15) := by
  obtain ⟨z, HZ⟩ := hide_word (opWords.getD 15 [])
  have c1 := word_as (o := .cells #[.string ⟨#[]⟩, .bool false, .bool false, i64 0, i64 0] 103) (x := opWords.getD 15 []) (op := 15) rfl hL HZ.out
  clear hL
  go_enter Tryd.func43, Tryd.ntmps43
  go_wp2
  exact bodyPost_ret (v := .tuple #[.agg #[.string z, .bool true, .bool false, .int .i64 2, .int .i64 2], .bool true]) (by rw [results_cell_tmp rfl]; go_simp) rfl ⟨by rw [HZ.out]; rfl, two_made⟩

set_option maxRecDepth 100000 in
theorem of_16 (w : World) (hL : Laid w) : Calls Tryd.prog 43 #[i64 16] w (OfPost w 16) := by
  obtain ⟨z, HZ⟩ := hide_word (opWords.getD 16 [])
  have c1 := word_as (o := .cells #[.string ⟨#[]⟩, .bool false, .bool false, i64 0, i64 0] 103) (x := opWords.getD 16 []) (op := 16) rfl hL HZ.out
  clear hL
  go_enter Tryd.func43, Tryd.ntmps43
  go_wp2
  exact bodyPost_ret (v := .tuple #[.agg #[.string z, .bool true, .bool false, .int .i64 2, .int .i64 2], .bool true]) (by rw [results_cell_tmp rfl]; go_simp) rfl ⟨by rw [HZ.out]; rfl, two_made⟩

set_option maxRecDepth 100000 in
theorem of_17 (w : World) (hL : Laid w) : Calls Tryd.prog 43 #[i64 17] w (OfPost w 17) := by
  obtain ⟨z, HZ⟩ := hide_word (opWords.getD 17 [])
  have c1 := word_as (o := .cells #[.string ⟨#[]⟩, .bool false, .bool false, i64 0, i64 0] 103) (x := opWords.getD 17 []) (op := 17) rfl hL HZ.out
  clear hL
  go_enter Tryd.func43, Tryd.ntmps43
  go_wp2
  exact bodyPost_ret (v := .tuple #[.agg #[.string z, .bool true, .bool false, .int .i64 2, .int .i64 2], .bool true]) (by rw [results_cell_tmp rfl]; go_simp) rfl ⟨by rw [HZ.out]; rfl, two_made⟩

set_option maxRecDepth 100000 in
theorem of_18 (w : World) (hL : Laid w) : Calls Tryd.prog 43 #[i64 18] w (OfPost w 18) := by
  obtain ⟨z, HZ⟩ := hide_word (opWords.getD 18 [])
  have c1 := word_as (o := .cells #[.string ⟨#[]⟩, .bool false, .bool false, i64 0, i64 0] 103) (x := opWords.getD 18 []) (op := 18) rfl hL HZ.out
  clear hL
  go_enter Tryd.func43, Tryd.ntmps43
  go_wp2
  exact bodyPost_ret (v := .tuple #[.agg #[.string z, .bool true, .bool false, .int .i64 2, .int .i64 2], .bool true]) (by rw [results_cell_tmp rfl]; go_simp) rfl ⟨by rw [HZ.out]; rfl, two_made⟩

set_option maxRecDepth 100000 in
theorem of_19 (w : World) (hL : Laid w) : Calls Tryd.prog 43 #[i64 19] w (OfPost w 19) := by
  obtain ⟨z, HZ⟩ := hide_word (opWords.getD 19 [])
  have c1 := word_as (o := .cells #[.string ⟨#[]⟩, .bool false, .bool false, i64 0, i64 0] 103) (x := opWords.getD 19 []) (op := 19) rfl hL HZ.out
  clear hL
  go_enter Tryd.func43, Tryd.ntmps43
  go_wp2
  exact bodyPost_ret (v := .tuple #[.agg #[.string z, .bool true, .bool false, .int .i64 2, .int .i64 2], .bool true]) (by rw [results_cell_tmp rfl]; go_simp) rfl ⟨by rw [HZ.out]; rfl, two_made⟩

set_option maxRecDepth 100000 in
theorem of_20 (w : World) (hL : Laid w) : Calls Tryd.prog 43 #[i64 20] w (OfPost w 20) := by
  obtain ⟨z, HZ⟩ := hide_word (opWords.getD 20 [])
  have c1 := word_as (o := .cells #[.string ⟨#[]⟩, .bool false, .bool false, i64 0, i64 0] 103) (x := opWords.getD 20 []) (op := 20) rfl hL HZ.out
  clear hL
  go_enter Tryd.func43, Tryd.ntmps43
  go_wp2
  exact bodyPost_ret (v := .tuple #[.agg #[.string z, .bool true, .bool false, .int .i64 2, .int .i64 2], .bool true]) (by rw [results_cell_tmp rfl]; go_simp) rfl ⟨by rw [HZ.out]; rfl, two_made⟩

set_option maxRecDepth 100000 in
theorem of_21 (w : World) (hL : Laid w) : Calls Tryd.prog 43 #[i64 21] w (OfPost w 21) := by
  obtain ⟨z, HZ⟩ := hide_word (opWords.getD 21 [])
  have c1 := word_as (o := .cells #[.string ⟨#[]⟩, .bool false, .bool false, i64 0, i64 0] 103) (x := opWords.getD 21 []) (op := 21) rfl hL HZ.out
  clear hL
  go_enter Tryd.func43, Tryd.ntmps43
  go_wp2
  exact bodyPost_ret (v := .tuple #[.agg #[.string z, .bool true, .bool false, .int .i64 2, .int .i64 2], .bool true]) (by rw [results_cell_tmp rfl]; go_simp) rfl ⟨by rw [HZ.out]; rfl, two_made⟩

set_option maxRecDepth 100000 in
theorem of_22 (w : World) (hL : Laid w) : Calls Tryd.prog 43 #[i64 22] w (OfPost w 22) := by
  obtain ⟨z, HZ⟩ := hide_word (opWords.getD 22 [])
  have c1 := word_as (o := .cells #[.string ⟨#[]⟩, .bool false, .bool false, i64 0, i64 0] 103) (x := opWords.getD 22 []) (op := 22) rfl hL HZ.out
  clear hL
  go_enter Tryd.func43, Tryd.ntmps43
  go_wp2
  exact bodyPost_ret (v := .tuple #[.agg #[.string z, .bool true, .bool false, .int .i64 1, .int .i64 1], .bool true]) (by rw [results_cell_tmp rfl]; go_simp) rfl ⟨by rw [HZ.out]; rfl, two_made⟩

set_option maxRecDepth 100000 in
theorem of_23 (w : World) (hL : Laid w) : Calls Tryd.prog 43 #[i64 23] w (OfPost w 23) := by
  obtain ⟨z, HZ⟩ := hide_word (opWords.getD 23 [])
  have c1 := word_as (o := .cells #[.string ⟨#[]⟩, .bool false, .bool false, i64 0, i64 0] 103) (x := opWords.getD 23 []) (op := 23) rfl hL HZ.out
  clear hL
  go_enter Tryd.func43, Tryd.ntmps43
  go_wp2
  exact bodyPost_ret (v := .tuple #[.agg #[.string z, .bool true, .bool false, .int .i64 1, .int .i64 1], .bool true]) (by rw [results_cell_tmp rfl]; go_simp) rfl ⟨by rw [HZ.out]; rfl, two_made⟩

set_option maxRecDepth 100000 in
theorem of_24 (w : World) (hL : Laid w) : Calls Tryd.prog 43 #[i64 24] w (OfPost w 24) := by
  obtain ⟨z, HZ⟩ := hide_word (opWords.getD 24 [])
  have c1 := word_as (o := .cells #[.string ⟨#[]⟩, .bool false, .bool false, i64 0, i64 0] 103) (x := opWords.getD 24 []) (op := 24) rfl hL HZ.out
  clear hL
  go_enter Tryd.func43, Tryd.ntmps43
  go_wp2
  exact bodyPost_ret (v := .tuple #[.agg #[.string z, .bool true, .bool false, .int .i64 1, .int .i64 1], .bool true]) (by rw [results_cell_tmp rfl]; go_simp) rfl ⟨by rw [HZ.out]; rfl, two_made⟩

set_option maxRecDepth 100000 in
theorem of_25 (w : World) (hL : Laid w) : Calls Tryd.prog 43 #[i64 25] w (OfPost w 25) := by
  obtain ⟨z, HZ⟩ := hide_word (opWords.getD 25 [])
  have c1 := word_as (o := .cells #[.string ⟨#[]⟩, .bool false, .bool false, i64 0, i64 0] 103) (x := opWords.getD 25 []) (op := 25) rfl hL HZ.out
  clear hL
  go_enter Tryd.func43, Tryd.ntmps43
  go_wp2
  exact bodyPost_ret (v := .tuple #[.agg #[.string z, .bool true, .bool true, .int .i64 0, .int .i64 8], .bool true]) (by rw [results_cell_tmp rfl]; go_simp) rfl ⟨by rw [HZ.out]; rfl, two_made⟩

set_option maxRecDepth 100000 in
theorem of_26 (w : World) (hL : Laid w) : Calls Tryd.prog 43 #[i64 26] w (OfPost w 26) := by
  obtain ⟨z, HZ⟩ := hide_word (opWords.getD 26 [])
  have c1 := word_as (o := .cells #[.string ⟨#[]⟩, .bool false, .bool false, i64 0, i64 0] 103) (x := opWords.getD 26 []) (op := 26) rfl hL HZ.out
  clear hL
  go_enter Tryd.func43, Tryd.ntmps43
  go_wp2
  exact bodyPost_ret (v := .tuple #[.agg #[.string z, .bool true, .bool true, .int .i64 1, .int .i64 1], .bool true]) (by rw [results_cell_tmp rfl]; go_simp) rfl ⟨by rw [HZ.out]; rfl, two_made⟩

set_option maxRecDepth 100000 in
theorem of_27 (w : World) (hL : Laid w) : Calls Tryd.prog 43 #[i64 27] w (OfPost w 27) := by
  obtain ⟨z, HZ⟩ := hide_word (opWords.getD 27 [])
  have c1 := word_as (o := .cells #[.string ⟨#[]⟩, .bool false, .bool false, i64 0, i64 0] 103) (x := opWords.getD 27 []) (op := 27) rfl hL HZ.out
  clear hL
  go_enter Tryd.func43, Tryd.ntmps43
  go_wp2
  exact bodyPost_ret (v := .tuple #[.agg #[.string z, .bool false, .bool true, .int .i64 2, .int .i64 2], .bool true]) (by rw [results_cell_tmp rfl]; go_simp) rfl ⟨by rw [HZ.out]; rfl, two_made⟩

set_option maxRecDepth 100000 in
theorem of_28 (w : World) (hL : Laid w) : Calls Tryd.prog 43 #[i64 28] w (OfPost w 28) := by
  obtain ⟨z, HZ⟩ := hide_word (opWords.getD 28 [])
  have c1 := word_as (o := .cells #[.string ⟨#[]⟩, .bool false, .bool false, i64 0, i64 0] 103) (x := opWords.getD 28 []) (op := 28) rfl hL HZ.out
  clear hL
  go_enter Tryd.func43, Tryd.ntmps43
  go_wp2
  exact bodyPost_ret (v := .tuple #[.agg #[.string z, .bool true, .bool false, .int .i64 2, .int .i64 2], .bool true]) (by rw [results_cell_tmp rfl]; go_simp) rfl ⟨by rw [HZ.out]; rfl, two_made⟩

set_option maxRecDepth 100000 in
theorem of_29 (w : World) (hL : Laid w) : Calls Tryd.prog 43 #[i64 29] w (OfPost w 29) := by
  obtain ⟨z, HZ⟩ := hide_word (opWords.getD 29 [])
  have c1 := word_as (o := .cells #[.string ⟨#[]⟩, .bool false, .bool false, i64 0, i64 0] 103) (x := opWords.getD 29 []) (op := 29) rfl hL HZ.out
  clear hL
  go_enter Tryd.func43, Tryd.ntmps43
  go_wp2
  exact bodyPost_ret (v := .tuple #[.agg #[.string z, .bool true, .bool true, .int .i64 0, .int .i64 0], .bool true]) (by rw [results_cell_tmp rfl]; go_simp) rfl ⟨by rw [HZ.out]; rfl, two_made⟩

set_option maxRecDepth 100000 in
theorem of_30 (w : World) (hL : Laid w) : Calls Tryd.prog 43 #[i64 30] w (OfPost w 30) := by
  obtain ⟨z, HZ⟩ := hide_word (opWords.getD 30 [])
  have c1 := word_as (o := .cells #[.string ⟨#[]⟩, .bool false, .bool false, i64 0, i64 0] 103) (x := opWords.getD 30 []) (op := 30) rfl hL HZ.out
  clear hL
  go_enter Tryd.func43, Tryd.ntmps43
  go_wp2
  exact bodyPost_ret (v := .tuple #[.agg #[.string z, .bool false, .bool true, .int .i64 1, .int .i64 1], .bool true]) (by rw [results_cell_tmp rfl]; go_simp) rfl ⟨by rw [HZ.out]; rfl, two_made⟩

set_option maxRecDepth 100000 in
theorem of_31 (w : World) (hL : Laid w) : Calls Tryd.prog 43 #[i64 31] w (OfPost w 31) := by
  obtain ⟨z, HZ⟩ := hide_word (opWords.getD 31 [])
  have c1 := word_as (o := .cells #[.string ⟨#[]⟩, .bool false, .bool false, i64 0, i64 0] 103) (x := opWords.getD 31 []) (op := 31) rfl hL HZ.out
  clear hL
  go_enter Tryd.func43, Tryd.ntmps43
  go_wp2
  exact bodyPost_ret (v := .tuple #[.agg #[.string z, .bool true, .bool true, .int .i64 0, .int .i64 8], .bool true]) (by rw [results_cell_tmp rfl]; go_simp) rfl ⟨by rw [HZ.out]; rfl, two_made⟩

set_option maxRecDepth 100000 in
theorem of_32 (w : World) (hL : Laid w) : Calls Tryd.prog 43 #[i64 32] w (OfPost w 32) := by
  obtain ⟨z, HZ⟩ := hide_word (opWords.getD 32 [])
  have c1 := word_as (o := .cells #[.string ⟨#[]⟩, .bool false, .bool false, i64 0, i64 0] 103) (x := opWords.getD 32 []) (op := 32) rfl hL HZ.out
  clear hL
  go_enter Tryd.func43, Tryd.ntmps43
  go_wp2
  exact bodyPost_ret (v := .tuple #[.agg #[.string z, .bool true, .bool true, .int .i64 0, .int .i64 8], .bool true]) (by rw [results_cell_tmp rfl]; go_simp) rfl ⟨by rw [HZ.out]; rfl, two_made⟩

set_option maxRecDepth 100000 in
theorem of_33 (w : World) (hL : Laid w) : Calls Tryd.prog 43 #[i64 33] w (OfPost w 33) := by
  obtain ⟨z, HZ⟩ := hide_word (opWords.getD 33 [])
  have c1 := word_as (o := .cells #[.string ⟨#[]⟩, .bool false, .bool false, i64 0, i64 0] 103) (x := opWords.getD 33 []) (op := 33) rfl hL HZ.out
  clear hL
  go_enter Tryd.func43, Tryd.ntmps43
  go_wp2
  exact bodyPost_ret (v := .tuple #[.agg #[.string z, .bool false, .bool false, .int .i64 1, .int .i64 1], .bool true]) (by rw [results_cell_tmp rfl]; go_simp) rfl ⟨by rw [HZ.out]; rfl, two_made⟩

set_option maxRecDepth 100000 in
theorem of_34 (w : World) (hL : Laid w) : Calls Tryd.prog 43 #[i64 34] w (OfPost w 34) := by
  obtain ⟨z, HZ⟩ := hide_word (opWords.getD 34 [])
  have c1 := word_as (o := .cells #[.string ⟨#[]⟩, .bool false, .bool false, i64 0, i64 0] 103) (x := opWords.getD 34 []) (op := 34) rfl hL HZ.out
  clear hL
  go_enter Tryd.func43, Tryd.ntmps43
  go_wp2
  exact bodyPost_ret (v := .tuple #[.agg #[.string z, .bool false, .bool false, .int .i64 0, .int .i64 0], .bool true]) (by rw [results_cell_tmp rfl]; go_simp) rfl ⟨by rw [HZ.out]; rfl, two_made⟩

theorem of_any (op : Int) (w : World) (hL : Laid w) : Calls Tryd.prog 43 #[i64 op] w (OfPost w op) := by
  by_cases h : op < 1 ∨ 34 < op
  · exact of_none op w h
  · have : op = 1 ∨ op = 2 ∨ op = 3 ∨ op = 4 ∨ op = 5 ∨ op = 6 ∨ op = 7 ∨ op = 8 ∨ op = 9 ∨ op = 10 ∨ op = 11 ∨ op = 12 ∨ op = 13 ∨ op = 14 ∨ op = 15 ∨ op = 16 ∨ op = 17 ∨ op = 18 ∨ op = 19 ∨ op = 20 ∨ op = 21 ∨ op = 22 ∨ op = 23 ∨ op = 24 ∨ op = 25 ∨ op = 26 ∨ op = 27 ∨ op = 28 ∨ op = 29 ∨ op = 30 ∨ op = 31 ∨ op = 32 ∨ op = 33 ∨ op = 34 := by omega
    rcases this with rfl | rfl | rfl | rfl | rfl | rfl | rfl | rfl | rfl | rfl | rfl | rfl | rfl | rfl | rfl | rfl | rfl | rfl | rfl | rfl | rfl | rfl | rfl | rfl | rfl | rfl | rfl | rfl | rfl | rfl | rfl | rfl | rfl | rfl
    · exact of_1 w hL
    · exact of_2 w hL
    · exact of_3 w hL
    · exact of_4 w hL
    · exact of_5 w hL
    · exact of_6 w hL
    · exact of_7 w hL
    · exact of_8 w hL
    · exact of_9 w hL
    · exact of_10 w hL
    · exact of_11 w hL
    · exact of_12 w hL
    · exact of_13 w hL
    · exact of_14 w hL
    · exact of_15 w hL
    · exact of_16 w hL
    · exact of_17 w hL
    · exact of_18 w hL
    · exact of_19 w hL
    · exact of_20 w hL
    · exact of_21 w hL
    · exact of_22 w hL
    · exact of_23 w hL
    · exact of_24 w hL
    · exact of_25 w hL
    · exact of_26 w hL
    · exact of_27 w hL
    · exact of_28 w hL
    · exact of_29 w hL
    · exact of_30 w hL
    · exact of_31 w hL
    · exact of_32 w hL
    · exact of_33 w hL
    · exact of_34 w hL
end Go.Proofs.YtdgmdpphimenjaaDoor.R05

/-
  What the row's condition gives the walks: the document's words lie where they are laid.
-/
namespace Go.Proofs.YtdgmdpphimenjaaDoor.R05
open Go.RowKit Api Syn WordM

theorem words_named : Tryd.prog.globalNamed "lateen/lateenref05.words" = some 0 := by kernel_rfl
theorem words_type : (Tryd.prog.globals[0]?).map (·.type) = some 154 := by kernel_rfl
theorem words_cells : Tryd.prog.cellsOf 9 = 1 := by kernel_rfl
/-- The words' datum. -/
theorem words_datum : (Rows.laid_lateen_lateenref05_words : DataW Unit) = .agg (opWords.map fun x => .lit (.string x)) := rfl

theorem laid_of {W : World} {L : List (String × DataW Unit)} (h : laidMet Tryd.prog L W) (hm : ("lateen/lateenref05.words", (Rows.laid_lateen_lateenref05_words : DataW Unit)) ∈ L) : Laid W := by
  have hr := Lib.laidMet.reads h hm
  obtain ⟨g, t, cs, f, p, hg, ht, hv, hd⟩ := hr
  obtain rfl := Option.some.inj (words_named.symm.trans hg)
  obtain rfl := Option.some.inj (words_type.symm.trans ht)
  rw [words_datum] at hd
  intro i x hx
  have hi : i < 35 := (List.getElem?_eq_some_iff.1 hx).1
  obtain ⟨f2, d, q, hdi, he⟩ := Lib.array_elem Tryd.underlying154 hd i hi
  rw [List.getElem?_map, hx] at hdi
  obtain rfl := Option.some.inj hdi
  obtain ⟨s, hs, hx2, _⟩ := DataW.trod_string Tryd.underlying9 he
  have e1 : s.data.toList = x := by
    have := congrArg Prod.fst hx2
    simpa using this.symm
  have hc := World.var?_cell hg hv i
  rw [hc]
  rw [words_cells, Nat.mul_one] at hs
  have e2 : cs.toList[i]? = some (.string s) := by
    have := congrArg (·[0]?) hs
    simpa using this
  rw [Array.getElem?_toList] at e2
  rw [e2, ← e1]
theorem laid_words {W : World} (h : laidMetH Tryd.prog [("lateen/lateenref05.words", Rows.laid_lateen_lateenref05_words)] W) : Laid W := by
  rw [MakeChecks.laidMetH_plain _ _ _ (by kernel_rfl)] at h
  exact laid_of h (.head _)
end Go.Proofs.YtdgmdpphimenjaaDoor.R05
