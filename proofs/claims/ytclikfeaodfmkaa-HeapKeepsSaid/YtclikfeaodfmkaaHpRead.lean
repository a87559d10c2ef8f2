/-
  Layer 15: what only reads: the program's, and the document's.
-/
import Derived.Test.YtclikfeaodfmkaaHpMem
import Derived.Deep.RegionLaw
namespace Go.Proofs.Ytclikfeaodfmkaa.Hp15
open Go.RowKit Api Mem

set_option maxRecDepth 100000 in
set_option maxHeartbeats 8000000 in
theorem leads_any (lo hi : Nat) (w : World) (v : Value) (h : Hp) (hv : Obs lo hi w v h) (x : Vl) :
    Calls Try.prog 24 #[v, vlA x] w (BPH (LeadsP h x) w) := by
  obtain ⟨A1, k1, rfl⟩ := Row.form hv
  have hla := row_len hv
  clear hv
  obtain ⟨ty, n⟩ := x
  by_cases h1 : ty = wRef
  · subst h1
    by_cases h2 : (1 : Int) ≤ n
    · by_cases h3 : n ≤ (h.length : Int)
      · have HP := Lib.hid (show LeadsP h ⟨wRef, n⟩ from ⟨rfl, h2, h3⟩)
        go_enter Try.func24, Try.ntmps24
        go_wp2_with fail
        go_ret
        exact ⟨true, rfl, ⟨fun _ => HP.out, fun _ => rfl⟩, (up15 w _)⟩
      · have HP := Lib.hid (show ¬ LeadsP h ⟨wRef, n⟩ from fun k => h3 k.2.2)
        have e3 : decide (n ≤ (h.length : Int)) = false := decide_eq_false h3
        go_enter Try.func24, Try.ntmps24
        go_wp2_with fail
        go_ret
        exact ⟨false, rfl, ⟨fun h => (by cases h), fun h => absurd h HP.out⟩, (up15 w _)⟩
    · have HP := Lib.hid (show ¬ LeadsP h ⟨wRef, n⟩ from fun k => h2 k.2.1)
      have e2 : decide ((1 : Int) ≤ n) = false := decide_eq_false h2
      go_enter Try.func24, Try.ntmps24
      go_wp2_with fail
      go_ret
      exact ⟨false, rfl, ⟨fun h => (by cases h), fun h => absurd h HP.out⟩, (up15 w _)⟩
  · have HP := Lib.hid (show ¬ LeadsP h ⟨ty, n⟩ from fun k => h1 k.1)
    have e1 : (ty == wRef) = false := by simpa using h1
    clear h1
    go_enter Try.func24, Try.ntmps24
    go_wp2_with fail
    go_ret
    exact ⟨false, rfl, ⟨fun h => (by cases h), fun h => absurd h HP.out⟩, (up15 w _)⟩
set_option maxRecDepth 100000 in
set_option maxHeartbeats 8000000 in
theorem rleads_any (lo hi : Nat) (w : World) (v : Value) (h : Hp) (hv : Obs lo hi w v h) (x : Vl) :
    Calls Try.prog 22 #[v, vlA x] w (BPH (LeadsP h x) w) := by
  obtain ⟨A1, k1, rfl⟩ := Row.form hv
  have hla := row_len hv
  clear hv
  obtain ⟨ty, n⟩ := x
  by_cases h1 : ty = wRef
  · subst h1
    by_cases h2 : (1 : Int) ≤ n
    · by_cases h3 : n ≤ (h.length : Int)
      · have HP := Lib.hid (show LeadsP h ⟨wRef, n⟩ from ⟨rfl, h2, h3⟩)
        go_enter Try.func22, Try.ntmps22
        go_wp2_with fail
        go_ret
        exact ⟨true, rfl, ⟨fun _ => HP.out, fun _ => rfl⟩, (up15 w _)⟩
      · have HP := Lib.hid (show ¬ LeadsP h ⟨wRef, n⟩ from fun k => h3 k.2.2)
        have e3 : decide (n ≤ (h.length : Int)) = false := decide_eq_false h3
        go_enter Try.func22, Try.ntmps22
        go_wp2_with fail
        go_ret
        exact ⟨false, rfl, ⟨fun h => (by cases h), fun h => absurd h HP.out⟩, (up15 w _)⟩
    · have HP := Lib.hid (show ¬ LeadsP h ⟨wRef, n⟩ from fun k => h2 k.2.1)
      have e2 : decide ((1 : Int) ≤ n) = false := decide_eq_false h2
      go_enter Try.func22, Try.ntmps22
      go_wp2_with fail
      go_ret
      exact ⟨false, rfl, ⟨fun h => (by cases h), fun h => absurd h HP.out⟩, (up15 w _)⟩
  · have HP := Lib.hid (show ¬ LeadsP h ⟨ty, n⟩ from fun k => h1 k.1)
    have e1 : (ty == wRef) = false := by simpa using h1
    clear h1
    go_enter Try.func22, Try.ntmps22
    go_wp2_with fail
    go_ret
    exact ⟨false, rfl, ⟨fun h => (by cases h), fun h => absurd h HP.out⟩, (up15 w _)⟩
set_option maxRecDepth 100000 in
set_option maxHeartbeats 8000000 in
theorem nought_any (w : World) (t : Wd) :
    Calls Try.prog 14 #[str t] w fun e w' => e = .returned (vlA (noughtV t)) ∧ Below w.heap.size w w' := by
  by_cases h1 : t = wInt
  · subst h1
    have HN : Hid (noughtV wInt = ⟨wInt, 0⟩) := Lib.hid rfl
    go_enter Try.func14, Try.ntmps14
    go_wp2_with fail
    refine bodyPost_ret (v := vlA ⟨wInt, 0⟩) (by rw [results_cell15 rfl]; go_simp) rfl ⟨by rw [HN.out], up15 w _⟩
  · have e1 : (t == wInt) = false := by simpa using h1
    by_cases h2 : t = wFloat
    · subst h2
      have HN : Hid (noughtV wFloat = ⟨wFloat, 0⟩) := Lib.hid rfl
      clear h1
      go_enter Try.func14, Try.ntmps14
      go_wp2_with fail
      refine bodyPost_ret (v := vlA ⟨wFloat, 0⟩) (by rw [results_cell15 rfl]; go_simp) rfl ⟨by rw [HN.out], up15 w _⟩
    · have e2 : (t == wFloat) = false := by simpa using h2
      have HN : Hid (noughtV t = ⟨wRef, 0⟩) := Lib.hid (by unfold noughtV; rw [if_neg h1, if_neg h2])
      clear h1 h2
      go_enter Try.func14, Try.ntmps14
      go_wp2_with fail
      refine bodyPost_ret (v := vlA ⟨wRef, 0⟩) (by rw [results_cell15 rfl]; go_simp) rfl ⟨by rw [HN.out], up15 w _⟩
end Go.Proofs.Ytclikfeaodfmkaa.Hp15
