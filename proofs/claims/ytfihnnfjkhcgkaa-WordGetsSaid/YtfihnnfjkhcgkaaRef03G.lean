/-
  The document's own Get of layer 3, walked.
-/
import Derived.Test.YtfihnnfjkhcgkaaRef03R
namespace Go.Proofs.Ytfihnnfjkhcgkaa.R03
open Go.RowKit NumM FloM WordM Mem

/-- the array of the five arguments that a text could be. -/
def five (s : ByteArray) (a b c : Int) : List Value :=
  [.int .i64 1, .string s, .int .i64 0, .int .i64 2, .string ⟨#[]⟩, .int .i64 a, .int .i64 3, .string ⟨#[]⟩, .int .i64 b, .int .i64 4, .string ⟨#[]⟩, .int .i64 0, .int .i64 5, .string ⟨#[]⟩, .int .i64 c]
def none3 : List Value := [.int .i64 0, .string ⟨#[]⟩, .int .i64 0]
/-- what the loop holds. -/
def Held (wr : World) (w0 g : Nat) (s : ByteArray) (a b c : Int) : Prop := Own wr w0 25 none3 ∧ Own wr g 38 (five s a b c) ∧ w0 < g
theorem Held.next {wr w' : World} {w0 g : Nat} {s : ByteArray} {a b c : Int} (h : Held wr w0 g s a b c) (hb : Below wr.heap.size wr w') : Held w' w0 g s a b c :=
  ⟨h.1.below hb h.1.lt, h.2.1.below hb h.2.1.lt, h.2.2⟩
theorem Held.at {wr : World} {w0 g : Nat} {s : ByteArray} {a b c : Int} (h : Held wr w0 g s a b c) (j : Nat) : wr.cell? ⟨g, j, none⟩ = (five s a b c)[j]? := h.2.1.cell j
theorem Held.out {wr : World} {w0 g : Nat} {s : ByteArray} {a b c : Int} (h : Held wr w0 g s a b c) :
    (wr.cell? ⟨w0, 0, none⟩ = some (.int .i64 0) ∧ wr.cell? ⟨w0, 1, none⟩ = some (.string ⟨#[]⟩) ∧ wr.cell? ⟨w0, 2, none⟩ = some (.int .i64 0)) ∧
    (wr.frozen? ⟨w0, 0, none⟩ = false ∧ wr.frozen? ⟨w0, 1, none⟩ = false ∧ wr.frozen? ⟨w0, 2, none⟩ = false) ∧ w0 < wr.heap.size := own3 h.1

theorem put3b {w w1 : World} {v0 v1 v2 : Value} (h : Below w.heap.size w w1) : Below w.heap.size w (((w1.setCell ⟨w.heap.size, 0, none⟩ v0).setCell ⟨w.heap.size, 1, none⟩ v1).setCell ⟨w.heap.size, 2, none⟩ v2) :=
  put3 (Nat.le_refl _) h

theorem upto {p : Nat → Bool} {k : Nat} (h : ∀ j, j < k → p j = false) (hk : p k = false) : ∀ j, j < k + 1 → p j = false := by
  intro j hj
  by_cases h1 : j < k
  · exact h j h1
  · obtain rfl : j = k := by omega
    exact hk
theorem ok_split {s : ByteArray} {i : Nat} {l : List UInt8} (hl : wput (cand s i) = l) : candOk s i = (rightV (cand s i) && (l == s.toList)) := by
  unfold candOk; rw [hl, ByteArray.toList_eq]

set_option maxRecDepth 100000 in
set_option maxHeartbeats 16000000 in
theorem get_some (s : ByteArray) (hm : s.size ≤ 9223372036854775807) (w : World) (g1 : 0 < s.size) :
    Calls Try.prog 16 #[.string s] w fun e w' => e = .returned (.tuple #[val (wget s).1, .bool (wget s).2]) ∧ Below w.heap.size w w' := by
  have q1 := fun w => R01.get_any s w hm
  have q2 := fun w => R02.get_any s w
  have q3 := fun w => R01.get_any (s.extract 1 s.size) w (by rw [ByteArray.size_extract]; unfold maxLen; omega)
  rw [cut_one s] at q3
  rw [← NumM.get_same] at q1 q3
  rw [← FloM.get_same] at q2
  have hin := in_cand s
  have hno := @wget_no_cand s
  have hyes : ∀ i, candOk s i = true → wget s = (cand s i, true) := fun i h => wget_cand h
  have hc0 : cand s 0 = (1, s, 0) := rfl
  have hc1 : cand s 1 = (2, e0, (getV s.data.toList).1) := rfl
  have hc2 : cand s 2 = (3, e0, (fgetV s.data.toList).1) := rfl
  have hc3 : cand s 3 = (4, e0, 0) := rfl
  have hc4 : cand s 4 = (5, e0, (getV s.data.toList.tail).1) := rfl
  obtain ⟨⟨a, a'⟩, ha⟩ : ∃ a, getV s.data.toList = a := ⟨_, rfl⟩
  obtain ⟨⟨b, b'⟩, hb⟩ : ∃ a, fgetV s.data.toList = a := ⟨_, rfl⟩
  obtain ⟨⟨c, c'⟩, hc⟩ : ∃ a, getV s.data.toList.tail = a := ⟨_, rfl⟩
  rw [ha] at q1 hc1
  rw [hb] at q2 hc2
  rw [hc] at q3 hc4
  simp only at q1 q2 q3 hc1 hc2 hc4
  have G1 := Lib.hid q1
  have G2 := Lib.hid q2
  have G3 := Lib.hid q3
  have Hno := Lib.hid hno
  have Hyes := Lib.hid hyes
  have Hin := Lib.hid hin
  have Hc0 := Lib.hid hc0
  have Hc1 := Lib.hid hc1
  have Hc2 := Lib.hid hc2
  have Hc3 := Lib.hid hc3
  have Hc4 := Lib.hid hc4
  have Hm := Lib.hid hm
  clear q1 q2 q3 ha hb hc hno hyes hin hc0 hc1 hc2 hc3 hc4
  have t1 : decide (0 < (s.size : Int)) = true := decide_eq_true (by omega)
  go_enter Try.func16, Try.ntmps16
  go_wp2_with (first | (go_at_call 27; (with_reducible refine (G1.out _).mono ?_); rintro e w1 ⟨rfl, hb⟩; have O1 := Lib.hid (made3 hb); have B1 := Lib.hid (grow3 (one_more _ _) hb); clear hb) | (go_at_call 28; (with_reducible refine (G2.out _).mono ?_); rintro e w2 ⟨rfl, hb⟩; have O2 := Lib.hid (O1.out.below hb O1.out.lt); have B2 := Lib.hid (grow3 B1.out hb); clear hb) | (go_at_call 27; (with_reducible refine (G3.out _).mono ?_); rintro e w3 ⟨rfl, hb⟩; have O3 := Lib.hid (O2.out.below hb O2.out.lt); have B3 := Lib.hid (grow3 B2.out hb); clear hb))
  go_loopw [12] (fun i wr => ∃ k : Nat, k ≤ 5 ∧ i = .int .i64 k ∧ (∀ j, j < k → candOk s j = false) ∧ Held wr w.heap.size w3.heap.size s a b c ∧ Below w.heap.size w wr) (fun i _ => (5 - intOf i).toNat)
  case atStart =>
    refine ⟨0, Nat.zero_le _, rfl, fun j hj => absurd hj (by omega), ⟨?_, ?_, O3.out.lt⟩, B3.out.alloc (Nat.le_of_lt O3.out.lt) _⟩
    · exact O3.out.alloc _
    · exact Own.made _ _ _
  case round =>
    obtain ⟨k, hk, rfl, hno, hH, hB⟩ := hrel
    have HN := Lib.hid hno
    have HH := Lib.hid hH
    have HB := Lib.hid hB
    clear hno hH hB
    have hk6 : k = 0 ∨ k = 1 ∨ k = 2 ∨ k = 3 ∨ k = 4 ∨ k = 5 := by omega
    clear hk
    rcases hk6 with rfl | rfl | rfl | rfl | rfl | rfl
    · have x0 : wr.cell? ⟨w3.heap.size, 0, none⟩ = some (.int .i64 1) := HH.out.at 0
      have x1 : wr.cell? ⟨w3.heap.size, 1, none⟩ = some (.string s) := HH.out.at 1
      have x2 : wr.cell? ⟨w3.heap.size, 2, none⟩ = some (.int .i64 0) := HH.out.at 2
      rcases hrv : rightV (cand s 0)
      · have HR := Lib.hid (right_at 1 s 0 false Hm.out (by show rightV (1, s, 0) = _; rw [← Hc0.out]; exact hrv))
        have HF := Lib.hid (show candOk s 0 = false by rw [ok_split rfl, hrv]; rfl)
        clear hrv
        go_wp2_with (go_at_call 12; (with_reducible refine (HR.out _).mono ?_); rintro e w4 ⟨rfl, hb4⟩; have H4 := Lib.hid (HH.out.next hb4); have B4 := Lib.hid (grow3 HB.out hb4); clear hb4; have y0 : w4.cell? ⟨w3.heap.size, 0, none⟩ = some (.int .i64 1) := H4.out.at 0; have y1 : w4.cell? ⟨w3.heap.size, 1, none⟩ = some (.string s) := H4.out.at 1; have y2 : w4.cell? ⟨w3.heap.size, 2, none⟩ = some (.int .i64 0) := H4.out.at 2)
        go_roundw
        case rel => exact ⟨1, by omega, by go_num, upto HN.out HF.out, H4.out, B4.out⟩
        case measure => simp [intOf]
      · have HR := Lib.hid (right_at 1 s 0 true Hm.out (by show rightV (1, s, 0) = _; rw [← Hc0.out]; exact hrv))
        obtain ⟨l, hl⟩ : ∃ l, wput (cand s 0) = l := ⟨_, rfl⟩
        have HP := Lib.hid (put_at 1 s 0 l (by have := Hin.out 0; rw [Hc0.out] at this; exact this) Hm.out (by show wput (1, s, 0) = _; rw [← Hc0.out]; exact hl))
        have HF := Lib.hid (ok_split hl)
        rw [hrv] at HF
        clear hrv hl
        rcases hq : (l == s.toList)
        · have HG := Lib.hid (show candOk s 0 = false by rw [HF.out, hq]; rfl)
          clear HF
          go_wp2_with (first | (go_at_call 12; (with_reducible refine (HR.out _).mono ?_); rintro e w4 ⟨rfl, hb4⟩; have H4 := Lib.hid (HH.out.next hb4); have B4 := Lib.hid (grow3 HB.out hb4); clear hb4; have y0 : w4.cell? ⟨w3.heap.size, 0, none⟩ = some (.int .i64 1) := H4.out.at 0; have y1 : w4.cell? ⟨w3.heap.size, 1, none⟩ = some (.string s) := H4.out.at 1; have y2 : w4.cell? ⟨w3.heap.size, 2, none⟩ = some (.int .i64 0) := H4.out.at 2) | (go_at_call 14; (with_reducible refine (HP.out _).mono ?_); rintro e w5 ⟨rfl, hb5⟩; have H5 := Lib.hid (H4.out.next hb5); have B5 := Lib.hid (grow3 B4.out hb5); clear hb5; obtain ⟨⟨p0, p1, p2⟩, ⟨z0, z1, z2⟩, hlt⟩ := H5.out.out; have v0 : w5.cell? ⟨w3.heap.size, 0, none⟩ = some (.int .i64 1) := H5.out.at 0; have v1 : w5.cell? ⟨w3.heap.size, 1, none⟩ = some (.string s) := H5.out.at 1; have v2 : w5.cell? ⟨w3.heap.size, 2, none⟩ = some (.int .i64 0) := H5.out.at 2))
          go_roundw
          case rel => exact ⟨1, by omega, by go_num, upto HN.out HG.out, H5.out, B5.out⟩
          case measure => simp [intOf]
        · have HG := Lib.hid (Hyes.out 0 (by rw [HF.out, hq]; rfl))
          clear HF
          go_wp2_with (first | (go_at_call 12; (with_reducible refine (HR.out _).mono ?_); rintro e w4 ⟨rfl, hb4⟩; have H4 := Lib.hid (HH.out.next hb4); have B4 := Lib.hid (grow3 HB.out hb4); clear hb4; have y0 : w4.cell? ⟨w3.heap.size, 0, none⟩ = some (.int .i64 1) := H4.out.at 0; have y1 : w4.cell? ⟨w3.heap.size, 1, none⟩ = some (.string s) := H4.out.at 1; have y2 : w4.cell? ⟨w3.heap.size, 2, none⟩ = some (.int .i64 0) := H4.out.at 2) | (go_at_call 14; (with_reducible refine (HP.out _).mono ?_); rintro e w5 ⟨rfl, hb5⟩; have H5 := Lib.hid (H4.out.next hb5); have B5 := Lib.hid (grow3 B4.out hb5); clear hb5; obtain ⟨⟨p0, p1, p2⟩, ⟨z0, z1, z2⟩, hlt⟩ := H5.out.out; have v0 : w5.cell? ⟨w3.heap.size, 0, none⟩ = some (.int .i64 1) := H5.out.at 0; have v1 : w5.cell? ⟨w3.heap.size, 1, none⟩ = some (.string s) := H5.out.at 1; have v2 : w5.cell? ⟨w3.heap.size, 2, none⟩ = some (.int .i64 0) := H5.out.at 2))
          (try simp only [Exit.inBlock, Exit.then])
          refine bodyPost_ret (v := .tuple #[.agg #[.int .i64 1, .string s, .int .i64 0], .bool true]) (by rw [results_cell_tmp rfl]; go_simp) rfl ⟨by rw [HG.out, Hc0.out]; rfl, put3b B5.out⟩
    · have x0 : wr.cell? ⟨w3.heap.size, 3, none⟩ = some (.int .i64 2) := HH.out.at 3
      have x1 : wr.cell? ⟨w3.heap.size, 4, none⟩ = some (.string ⟨#[]⟩) := HH.out.at 4
      have x2 : wr.cell? ⟨w3.heap.size, 5, none⟩ = some (.int .i64 a) := HH.out.at 5
      rcases hrv : rightV (cand s 1)
      · have HR := Lib.hid (right_at 2 ⟨#[]⟩ a false (by decide) (by show rightV (2, e0, a) = _; rw [← Hc1.out]; exact hrv))
        have HF := Lib.hid (show candOk s 1 = false by rw [ok_split rfl, hrv]; rfl)
        clear hrv
        go_wp2_with (go_at_call 12; (with_reducible refine (HR.out _).mono ?_); rintro e w4 ⟨rfl, hb4⟩; have H4 := Lib.hid (HH.out.next hb4); have B4 := Lib.hid (grow3 HB.out hb4); clear hb4; have y0 : w4.cell? ⟨w3.heap.size, 3, none⟩ = some (.int .i64 2) := H4.out.at 3; have y1 : w4.cell? ⟨w3.heap.size, 4, none⟩ = some (.string ⟨#[]⟩) := H4.out.at 4; have y2 : w4.cell? ⟨w3.heap.size, 5, none⟩ = some (.int .i64 a) := H4.out.at 5)
        go_roundw
        case rel => exact ⟨2, by omega, by go_num, upto HN.out HF.out, H4.out, B4.out⟩
        case measure => simp [intOf]
      · have HR := Lib.hid (right_at 2 ⟨#[]⟩ a true (by decide) (by show rightV (2, e0, a) = _; rw [← Hc1.out]; exact hrv))
        obtain ⟨l, hl⟩ : ∃ l, wput (cand s 1) = l := ⟨_, rfl⟩
        have HP := Lib.hid (put_at 2 ⟨#[]⟩ a l (by have := Hin.out 1; rw [Hc1.out] at this; exact this) (by decide) (by show wput (2, e0, a) = _; rw [← Hc1.out]; exact hl))
        have HF := Lib.hid (ok_split hl)
        rw [hrv] at HF
        clear hrv hl
        rcases hq : (l == s.toList)
        · have HG := Lib.hid (show candOk s 1 = false by rw [HF.out, hq]; rfl)
          clear HF
          go_wp2_with (first | (go_at_call 12; (with_reducible refine (HR.out _).mono ?_); rintro e w4 ⟨rfl, hb4⟩; have H4 := Lib.hid (HH.out.next hb4); have B4 := Lib.hid (grow3 HB.out hb4); clear hb4; have y0 : w4.cell? ⟨w3.heap.size, 3, none⟩ = some (.int .i64 2) := H4.out.at 3; have y1 : w4.cell? ⟨w3.heap.size, 4, none⟩ = some (.string ⟨#[]⟩) := H4.out.at 4; have y2 : w4.cell? ⟨w3.heap.size, 5, none⟩ = some (.int .i64 a) := H4.out.at 5) | (go_at_call 14; (with_reducible refine (HP.out _).mono ?_); rintro e w5 ⟨rfl, hb5⟩; have H5 := Lib.hid (H4.out.next hb5); have B5 := Lib.hid (grow3 B4.out hb5); clear hb5; obtain ⟨⟨p0, p1, p2⟩, ⟨z0, z1, z2⟩, hlt⟩ := H5.out.out; have v0 : w5.cell? ⟨w3.heap.size, 3, none⟩ = some (.int .i64 2) := H5.out.at 3; have v1 : w5.cell? ⟨w3.heap.size, 4, none⟩ = some (.string ⟨#[]⟩) := H5.out.at 4; have v2 : w5.cell? ⟨w3.heap.size, 5, none⟩ = some (.int .i64 a) := H5.out.at 5))
          go_roundw
          case rel => exact ⟨2, by omega, by go_num, upto HN.out HG.out, H5.out, B5.out⟩
          case measure => simp [intOf]
        · have HG := Lib.hid (Hyes.out 1 (by rw [HF.out, hq]; rfl))
          clear HF
          go_wp2_with (first | (go_at_call 12; (with_reducible refine (HR.out _).mono ?_); rintro e w4 ⟨rfl, hb4⟩; have H4 := Lib.hid (HH.out.next hb4); have B4 := Lib.hid (grow3 HB.out hb4); clear hb4; have y0 : w4.cell? ⟨w3.heap.size, 3, none⟩ = some (.int .i64 2) := H4.out.at 3; have y1 : w4.cell? ⟨w3.heap.size, 4, none⟩ = some (.string ⟨#[]⟩) := H4.out.at 4; have y2 : w4.cell? ⟨w3.heap.size, 5, none⟩ = some (.int .i64 a) := H4.out.at 5) | (go_at_call 14; (with_reducible refine (HP.out _).mono ?_); rintro e w5 ⟨rfl, hb5⟩; have H5 := Lib.hid (H4.out.next hb5); have B5 := Lib.hid (grow3 B4.out hb5); clear hb5; obtain ⟨⟨p0, p1, p2⟩, ⟨z0, z1, z2⟩, hlt⟩ := H5.out.out; have v0 : w5.cell? ⟨w3.heap.size, 3, none⟩ = some (.int .i64 2) := H5.out.at 3; have v1 : w5.cell? ⟨w3.heap.size, 4, none⟩ = some (.string ⟨#[]⟩) := H5.out.at 4; have v2 : w5.cell? ⟨w3.heap.size, 5, none⟩ = some (.int .i64 a) := H5.out.at 5))
          (try simp only [Exit.inBlock, Exit.then])
          refine bodyPost_ret (v := .tuple #[.agg #[.int .i64 2, .string ⟨#[]⟩, .int .i64 a], .bool true]) (by rw [results_cell_tmp rfl]; go_simp) rfl ⟨by rw [HG.out, Hc1.out]; rfl, put3b B5.out⟩
    · have x0 : wr.cell? ⟨w3.heap.size, 6, none⟩ = some (.int .i64 3) := HH.out.at 6
      have x1 : wr.cell? ⟨w3.heap.size, 7, none⟩ = some (.string ⟨#[]⟩) := HH.out.at 7
      have x2 : wr.cell? ⟨w3.heap.size, 8, none⟩ = some (.int .i64 b) := HH.out.at 8
      rcases hrv : rightV (cand s 2)
      · have HR := Lib.hid (right_at 3 ⟨#[]⟩ b false (by decide) (by show rightV (3, e0, b) = _; rw [← Hc2.out]; exact hrv))
        have HF := Lib.hid (show candOk s 2 = false by rw [ok_split rfl, hrv]; rfl)
        clear hrv
        go_wp2_with (go_at_call 12; (with_reducible refine (HR.out _).mono ?_); rintro e w4 ⟨rfl, hb4⟩; have H4 := Lib.hid (HH.out.next hb4); have B4 := Lib.hid (grow3 HB.out hb4); clear hb4; have y0 : w4.cell? ⟨w3.heap.size, 6, none⟩ = some (.int .i64 3) := H4.out.at 6; have y1 : w4.cell? ⟨w3.heap.size, 7, none⟩ = some (.string ⟨#[]⟩) := H4.out.at 7; have y2 : w4.cell? ⟨w3.heap.size, 8, none⟩ = some (.int .i64 b) := H4.out.at 8)
        go_roundw
        case rel => exact ⟨3, by omega, by go_num, upto HN.out HF.out, H4.out, B4.out⟩
        case measure => simp [intOf]
      · have HR := Lib.hid (right_at 3 ⟨#[]⟩ b true (by decide) (by show rightV (3, e0, b) = _; rw [← Hc2.out]; exact hrv))
        obtain ⟨l, hl⟩ : ∃ l, wput (cand s 2) = l := ⟨_, rfl⟩
        have HP := Lib.hid (put_at 3 ⟨#[]⟩ b l (by have := Hin.out 2; rw [Hc2.out] at this; exact this) (by decide) (by show wput (3, e0, b) = _; rw [← Hc2.out]; exact hl))
        have HF := Lib.hid (ok_split hl)
        rw [hrv] at HF
        clear hrv hl
        rcases hq : (l == s.toList)
        · have HG := Lib.hid (show candOk s 2 = false by rw [HF.out, hq]; rfl)
          clear HF
          go_wp2_with (first | (go_at_call 12; (with_reducible refine (HR.out _).mono ?_); rintro e w4 ⟨rfl, hb4⟩; have H4 := Lib.hid (HH.out.next hb4); have B4 := Lib.hid (grow3 HB.out hb4); clear hb4; have y0 : w4.cell? ⟨w3.heap.size, 6, none⟩ = some (.int .i64 3) := H4.out.at 6; have y1 : w4.cell? ⟨w3.heap.size, 7, none⟩ = some (.string ⟨#[]⟩) := H4.out.at 7; have y2 : w4.cell? ⟨w3.heap.size, 8, none⟩ = some (.int .i64 b) := H4.out.at 8) | (go_at_call 14; (with_reducible refine (HP.out _).mono ?_); rintro e w5 ⟨rfl, hb5⟩; have H5 := Lib.hid (H4.out.next hb5); have B5 := Lib.hid (grow3 B4.out hb5); clear hb5; obtain ⟨⟨p0, p1, p2⟩, ⟨z0, z1, z2⟩, hlt⟩ := H5.out.out; have v0 : w5.cell? ⟨w3.heap.size, 6, none⟩ = some (.int .i64 3) := H5.out.at 6; have v1 : w5.cell? ⟨w3.heap.size, 7, none⟩ = some (.string ⟨#[]⟩) := H5.out.at 7; have v2 : w5.cell? ⟨w3.heap.size, 8, none⟩ = some (.int .i64 b) := H5.out.at 8))
          go_roundw
          case rel => exact ⟨3, by omega, by go_num, upto HN.out HG.out, H5.out, B5.out⟩
          case measure => simp [intOf]
        · have HG := Lib.hid (Hyes.out 2 (by rw [HF.out, hq]; rfl))
          clear HF
          go_wp2_with (first | (go_at_call 12; (with_reducible refine (HR.out _).mono ?_); rintro e w4 ⟨rfl, hb4⟩; have H4 := Lib.hid (HH.out.next hb4); have B4 := Lib.hid (grow3 HB.out hb4); clear hb4; have y0 : w4.cell? ⟨w3.heap.size, 6, none⟩ = some (.int .i64 3) := H4.out.at 6; have y1 : w4.cell? ⟨w3.heap.size, 7, none⟩ = some (.string ⟨#[]⟩) := H4.out.at 7; have y2 : w4.cell? ⟨w3.heap.size, 8, none⟩ = some (.int .i64 b) := H4.out.at 8) | (go_at_call 14; (with_reducible refine (HP.out _).mono ?_); rintro e w5 ⟨rfl, hb5⟩; have H5 := Lib.hid (H4.out.next hb5); have B5 := Lib.hid (grow3 B4.out hb5); clear hb5; obtain ⟨⟨p0, p1, p2⟩, ⟨z0, z1, z2⟩, hlt⟩ := H5.out.out; have v0 : w5.cell? ⟨w3.heap.size, 6, none⟩ = some (.int .i64 3) := H5.out.at 6; have v1 : w5.cell? ⟨w3.heap.size, 7, none⟩ = some (.string ⟨#[]⟩) := H5.out.at 7; have v2 : w5.cell? ⟨w3.heap.size, 8, none⟩ = some (.int .i64 b) := H5.out.at 8))
          (try simp only [Exit.inBlock, Exit.then])
          refine bodyPost_ret (v := .tuple #[.agg #[.int .i64 3, .string ⟨#[]⟩, .int .i64 b], .bool true]) (by rw [results_cell_tmp rfl]; go_simp) rfl ⟨by rw [HG.out, Hc2.out]; rfl, put3b B5.out⟩
    · have x0 : wr.cell? ⟨w3.heap.size, 9, none⟩ = some (.int .i64 4) := HH.out.at 9
      have x1 : wr.cell? ⟨w3.heap.size, 10, none⟩ = some (.string ⟨#[]⟩) := HH.out.at 10
      have x2 : wr.cell? ⟨w3.heap.size, 11, none⟩ = some (.int .i64 0) := HH.out.at 11
      rcases hrv : rightV (cand s 3)
      · have HR := Lib.hid (right_at 4 ⟨#[]⟩ 0 false (by decide) (by show rightV (4, e0, 0) = _; rw [← Hc3.out]; exact hrv))
        have HF := Lib.hid (show candOk s 3 = false by rw [ok_split rfl, hrv]; rfl)
        clear hrv
        go_wp2_with (go_at_call 12; (with_reducible refine (HR.out _).mono ?_); rintro e w4 ⟨rfl, hb4⟩; have H4 := Lib.hid (HH.out.next hb4); have B4 := Lib.hid (grow3 HB.out hb4); clear hb4; have y0 : w4.cell? ⟨w3.heap.size, 9, none⟩ = some (.int .i64 4) := H4.out.at 9; have y1 : w4.cell? ⟨w3.heap.size, 10, none⟩ = some (.string ⟨#[]⟩) := H4.out.at 10; have y2 : w4.cell? ⟨w3.heap.size, 11, none⟩ = some (.int .i64 0) := H4.out.at 11)
        go_roundw
        case rel => exact ⟨4, by omega, by go_num, upto HN.out HF.out, H4.out, B4.out⟩
        case measure => simp [intOf]
      · have HR := Lib.hid (right_at 4 ⟨#[]⟩ 0 true (by decide) (by show rightV (4, e0, 0) = _; rw [← Hc3.out]; exact hrv))
        obtain ⟨l, hl⟩ : ∃ l, wput (cand s 3) = l := ⟨_, rfl⟩
        have HP := Lib.hid (put_at 4 ⟨#[]⟩ 0 l (by have := Hin.out 3; rw [Hc3.out] at this; exact this) (by decide) (by show wput (4, e0, 0) = _; rw [← Hc3.out]; exact hl))
        have HF := Lib.hid (ok_split hl)
        rw [hrv] at HF
        clear hrv hl
        rcases hq : (l == s.toList)
        · have HG := Lib.hid (show candOk s 3 = false by rw [HF.out, hq]; rfl)
          clear HF
          go_wp2_with (first | (go_at_call 12; (with_reducible refine (HR.out _).mono ?_); rintro e w4 ⟨rfl, hb4⟩; have H4 := Lib.hid (HH.out.next hb4); have B4 := Lib.hid (grow3 HB.out hb4); clear hb4; have y0 : w4.cell? ⟨w3.heap.size, 9, none⟩ = some (.int .i64 4) := H4.out.at 9; have y1 : w4.cell? ⟨w3.heap.size, 10, none⟩ = some (.string ⟨#[]⟩) := H4.out.at 10; have y2 : w4.cell? ⟨w3.heap.size, 11, none⟩ = some (.int .i64 0) := H4.out.at 11) | (go_at_call 14; (with_reducible refine (HP.out _).mono ?_); rintro e w5 ⟨rfl, hb5⟩; have H5 := Lib.hid (H4.out.next hb5); have B5 := Lib.hid (grow3 B4.out hb5); clear hb5; obtain ⟨⟨p0, p1, p2⟩, ⟨z0, z1, z2⟩, hlt⟩ := H5.out.out; have v0 : w5.cell? ⟨w3.heap.size, 9, none⟩ = some (.int .i64 4) := H5.out.at 9; have v1 : w5.cell? ⟨w3.heap.size, 10, none⟩ = some (.string ⟨#[]⟩) := H5.out.at 10; have v2 : w5.cell? ⟨w3.heap.size, 11, none⟩ = some (.int .i64 0) := H5.out.at 11))
          go_roundw
          case rel => exact ⟨4, by omega, by go_num, upto HN.out HG.out, H5.out, B5.out⟩
          case measure => simp [intOf]
        · have HG := Lib.hid (Hyes.out 3 (by rw [HF.out, hq]; rfl))
          clear HF
          go_wp2_with (first | (go_at_call 12; (with_reducible refine (HR.out _).mono ?_); rintro e w4 ⟨rfl, hb4⟩; have H4 := Lib.hid (HH.out.next hb4); have B4 := Lib.hid (grow3 HB.out hb4); clear hb4; have y0 : w4.cell? ⟨w3.heap.size, 9, none⟩ = some (.int .i64 4) := H4.out.at 9; have y1 : w4.cell? ⟨w3.heap.size, 10, none⟩ = some (.string ⟨#[]⟩) := H4.out.at 10; have y2 : w4.cell? ⟨w3.heap.size, 11, none⟩ = some (.int .i64 0) := H4.out.at 11) | (go_at_call 14; (with_reducible refine (HP.out _).mono ?_); rintro e w5 ⟨rfl, hb5⟩; have H5 := Lib.hid (H4.out.next hb5); have B5 := Lib.hid (grow3 B4.out hb5); clear hb5; obtain ⟨⟨p0, p1, p2⟩, ⟨z0, z1, z2⟩, hlt⟩ := H5.out.out; have v0 : w5.cell? ⟨w3.heap.size, 9, none⟩ = some (.int .i64 4) := H5.out.at 9; have v1 : w5.cell? ⟨w3.heap.size, 10, none⟩ = some (.string ⟨#[]⟩) := H5.out.at 10; have v2 : w5.cell? ⟨w3.heap.size, 11, none⟩ = some (.int .i64 0) := H5.out.at 11))
          (try simp only [Exit.inBlock, Exit.then])
          refine bodyPost_ret (v := .tuple #[.agg #[.int .i64 4, .string ⟨#[]⟩, .int .i64 0], .bool true]) (by rw [results_cell_tmp rfl]; go_simp) rfl ⟨by rw [HG.out, Hc3.out]; rfl, put3b B5.out⟩
    · have x0 : wr.cell? ⟨w3.heap.size, 12, none⟩ = some (.int .i64 5) := HH.out.at 12
      have x1 : wr.cell? ⟨w3.heap.size, 13, none⟩ = some (.string ⟨#[]⟩) := HH.out.at 13
      have x2 : wr.cell? ⟨w3.heap.size, 14, none⟩ = some (.int .i64 c) := HH.out.at 14
      rcases hrv : rightV (cand s 4)
      · have HR := Lib.hid (right_at 5 ⟨#[]⟩ c false (by decide) (by show rightV (5, e0, c) = _; rw [← Hc4.out]; exact hrv))
        have HF := Lib.hid (show candOk s 4 = false by rw [ok_split rfl, hrv]; rfl)
        clear hrv
        go_wp2_with (go_at_call 12; (with_reducible refine (HR.out _).mono ?_); rintro e w4 ⟨rfl, hb4⟩; have H4 := Lib.hid (HH.out.next hb4); have B4 := Lib.hid (grow3 HB.out hb4); clear hb4; have y0 : w4.cell? ⟨w3.heap.size, 12, none⟩ = some (.int .i64 5) := H4.out.at 12; have y1 : w4.cell? ⟨w3.heap.size, 13, none⟩ = some (.string ⟨#[]⟩) := H4.out.at 13; have y2 : w4.cell? ⟨w3.heap.size, 14, none⟩ = some (.int .i64 c) := H4.out.at 14)
        go_roundw
        case rel => exact ⟨5, by omega, by go_num, upto HN.out HF.out, H4.out, B4.out⟩
        case measure => simp [intOf]
      · have HR := Lib.hid (right_at 5 ⟨#[]⟩ c true (by decide) (by show rightV (5, e0, c) = _; rw [← Hc4.out]; exact hrv))
        obtain ⟨l, hl⟩ : ∃ l, wput (cand s 4) = l := ⟨_, rfl⟩
        have HP := Lib.hid (put_at 5 ⟨#[]⟩ c l (by have := Hin.out 4; rw [Hc4.out] at this; exact this) (by decide) (by show wput (5, e0, c) = _; rw [← Hc4.out]; exact hl))
        have HF := Lib.hid (ok_split hl)
        rw [hrv] at HF
        clear hrv hl
        rcases hq : (l == s.toList)
        · have HG := Lib.hid (show candOk s 4 = false by rw [HF.out, hq]; rfl)
          clear HF
          go_wp2_with (first | (go_at_call 12; (with_reducible refine (HR.out _).mono ?_); rintro e w4 ⟨rfl, hb4⟩; have H4 := Lib.hid (HH.out.next hb4); have B4 := Lib.hid (grow3 HB.out hb4); clear hb4; have y0 : w4.cell? ⟨w3.heap.size, 12, none⟩ = some (.int .i64 5) := H4.out.at 12; have y1 : w4.cell? ⟨w3.heap.size, 13, none⟩ = some (.string ⟨#[]⟩) := H4.out.at 13; have y2 : w4.cell? ⟨w3.heap.size, 14, none⟩ = some (.int .i64 c) := H4.out.at 14) | (go_at_call 14; (with_reducible refine (HP.out _).mono ?_); rintro e w5 ⟨rfl, hb5⟩; have H5 := Lib.hid (H4.out.next hb5); have B5 := Lib.hid (grow3 B4.out hb5); clear hb5; obtain ⟨⟨p0, p1, p2⟩, ⟨z0, z1, z2⟩, hlt⟩ := H5.out.out; have v0 : w5.cell? ⟨w3.heap.size, 12, none⟩ = some (.int .i64 5) := H5.out.at 12; have v1 : w5.cell? ⟨w3.heap.size, 13, none⟩ = some (.string ⟨#[]⟩) := H5.out.at 13; have v2 : w5.cell? ⟨w3.heap.size, 14, none⟩ = some (.int .i64 c) := H5.out.at 14))
          go_roundw
          case rel => exact ⟨5, by omega, by go_num, upto HN.out HG.out, H5.out, B5.out⟩
          case measure => simp [intOf]
        · have HG := Lib.hid (Hyes.out 4 (by rw [HF.out, hq]; rfl))
          clear HF
          go_wp2_with (first | (go_at_call 12; (with_reducible refine (HR.out _).mono ?_); rintro e w4 ⟨rfl, hb4⟩; have H4 := Lib.hid (HH.out.next hb4); have B4 := Lib.hid (grow3 HB.out hb4); clear hb4; have y0 : w4.cell? ⟨w3.heap.size, 12, none⟩ = some (.int .i64 5) := H4.out.at 12; have y1 : w4.cell? ⟨w3.heap.size, 13, none⟩ = some (.string ⟨#[]⟩) := H4.out.at 13; have y2 : w4.cell? ⟨w3.heap.size, 14, none⟩ = some (.int .i64 c) := H4.out.at 14) | (go_at_call 14; (with_reducible refine (HP.out _).mono ?_); rintro e w5 ⟨rfl, hb5⟩; have H5 := Lib.hid (H4.out.next hb5); have B5 := Lib.hid (grow3 B4.out hb5); clear hb5; obtain ⟨⟨p0, p1, p2⟩, ⟨z0, z1, z2⟩, hlt⟩ := H5.out.out; have v0 : w5.cell? ⟨w3.heap.size, 12, none⟩ = some (.int .i64 5) := H5.out.at 12; have v1 : w5.cell? ⟨w3.heap.size, 13, none⟩ = some (.string ⟨#[]⟩) := H5.out.at 13; have v2 : w5.cell? ⟨w3.heap.size, 14, none⟩ = some (.int .i64 c) := H5.out.at 14))
          (try simp only [Exit.inBlock, Exit.then])
          refine bodyPost_ret (v := .tuple #[.agg #[.int .i64 5, .string ⟨#[]⟩, .int .i64 c], .bool true]) (by rw [results_cell_tmp rfl]; go_simp) rfl ⟨by rw [HG.out, Hc4.out]; rfl, put3b B5.out⟩
    · obtain ⟨⟨p0, p1, p2⟩, ⟨z0, z1, z2⟩, hlt⟩ := HH.out.out
      go_wp2_with fail
      (try simp only [Exit.inBlock, Exit.then])
      refine bodyPost_ret (v := .tuple #[.agg #[.int .i64 0, .string ⟨#[]⟩, .int .i64 0], .bool false]) (by rw [results_cell_tmp rfl]; go_simp) rfl ⟨by rw [Hno.out HN.out]; rfl, put3b HB.out⟩
set_option maxRecDepth 100000 in
set_option maxHeartbeats 16000000 in
theorem get_none (s : ByteArray) (hm : s.size ≤ 9223372036854775807) (w : World) (g1 : s.size = 0) :
    Calls Try.prog 16 #[.string s] w fun e w' => e = .returned (.tuple #[val (wget s).1, .bool (wget s).2]) ∧ Below w.heap.size w w' := by
  have hnil : (⟨#[]⟩ : ByteArray).data.toList = s.data.toList.tail := by
    have : s = ByteArray.empty := by simpa using g1
    rw [this]; rfl
  have q1 := fun w => R01.get_any s w hm
  have q2 := fun w => R02.get_any s w
  have q3 := fun w => R01.get_any ⟨#[]⟩ w (by decide)
  rw [show (⟨#[]⟩ : ByteArray).data.toList = s.data.toList.tail from hnil] at q3
  rw [← NumM.get_same] at q1 q3
  rw [← FloM.get_same] at q2
  have hin := in_cand s
  have hno := @wget_no_cand s
  have hyes : ∀ i, candOk s i = true → wget s = (cand s i, true) := fun i h => wget_cand h
  have hc0 : cand s 0 = (1, s, 0) := rfl
  have hc1 : cand s 1 = (2, e0, (getV s.data.toList).1) := rfl
  have hc2 : cand s 2 = (3, e0, (fgetV s.data.toList).1) := rfl
  have hc3 : cand s 3 = (4, e0, 0) := rfl
  have hc4 : cand s 4 = (5, e0, (getV s.data.toList.tail).1) := rfl
  obtain ⟨⟨a, a'⟩, ha⟩ : ∃ a, getV s.data.toList = a := ⟨_, rfl⟩
  obtain ⟨⟨b, b'⟩, hb⟩ : ∃ a, fgetV s.data.toList = a := ⟨_, rfl⟩
  obtain ⟨⟨c, c'⟩, hc⟩ : ∃ a, getV s.data.toList.tail = a := ⟨_, rfl⟩
  rw [ha] at q1 hc1
  rw [hb] at q2 hc2
  rw [hc] at q3 hc4
  simp only at q1 q2 q3 hc1 hc2 hc4
  have G1 := Lib.hid q1
  have G2 := Lib.hid q2
  have G3 := Lib.hid q3
  have Hno := Lib.hid hno
  have Hyes := Lib.hid hyes
  have Hin := Lib.hid hin
  have Hc0 := Lib.hid hc0
  have Hc1 := Lib.hid hc1
  have Hc2 := Lib.hid hc2
  have Hc3 := Lib.hid hc3
  have Hc4 := Lib.hid hc4
  have Hm := Lib.hid hm
  clear q1 q2 q3 ha hb hc hno hyes hin hc0 hc1 hc2 hc3 hc4
  clear hnil
  have t1 : decide (0 < (s.size : Int)) = false := decide_eq_false (by omega)
  go_enter Try.func16, Try.ntmps16
  go_wp2_with (first | (go_at_call 27; (with_reducible refine (G1.out _).mono ?_); rintro e w1 ⟨rfl, hb⟩; have O1 := Lib.hid (made3 hb); have B1 := Lib.hid (grow3 (one_more _ _) hb); clear hb) | (go_at_call 28; (with_reducible refine (G2.out _).mono ?_); rintro e w2 ⟨rfl, hb⟩; have O2 := Lib.hid (O1.out.below hb O1.out.lt); have B2 := Lib.hid (grow3 B1.out hb); clear hb) | (go_at_call 27; (with_reducible refine (G3.out _).mono ?_); rintro e w3 ⟨rfl, hb⟩; have O3 := Lib.hid (O2.out.below hb O2.out.lt); have B3 := Lib.hid (grow3 B2.out hb); clear hb))
  go_loopw [12] (fun i wr => ∃ k : Nat, k ≤ 5 ∧ i = .int .i64 k ∧ (∀ j, j < k → candOk s j = false) ∧ Held wr w.heap.size w3.heap.size s a b c ∧ Below w.heap.size w wr) (fun i _ => (5 - intOf i).toNat)
  case atStart =>
    refine ⟨0, Nat.zero_le _, rfl, fun j hj => absurd hj (by omega), ⟨?_, ?_, O3.out.lt⟩, B3.out.alloc (Nat.le_of_lt O3.out.lt) _⟩
    · exact O3.out.alloc _
    · exact Own.made _ _ _
  case round =>
    obtain ⟨k, hk, rfl, hno, hH, hB⟩ := hrel
    have HN := Lib.hid hno
    have HH := Lib.hid hH
    have HB := Lib.hid hB
    clear hno hH hB
    have hk6 : k = 0 ∨ k = 1 ∨ k = 2 ∨ k = 3 ∨ k = 4 ∨ k = 5 := by omega
    clear hk
    rcases hk6 with rfl | rfl | rfl | rfl | rfl | rfl
    · have x0 : wr.cell? ⟨w3.heap.size, 0, none⟩ = some (.int .i64 1) := HH.out.at 0
      have x1 : wr.cell? ⟨w3.heap.size, 1, none⟩ = some (.string s) := HH.out.at 1
      have x2 : wr.cell? ⟨w3.heap.size, 2, none⟩ = some (.int .i64 0) := HH.out.at 2
      rcases hrv : rightV (cand s 0)
      · have HR := Lib.hid (right_at 1 s 0 false Hm.out (by show rightV (1, s, 0) = _; rw [← Hc0.out]; exact hrv))
        have HF := Lib.hid (show candOk s 0 = false by rw [ok_split rfl, hrv]; rfl)
        clear hrv
        go_wp2_with (go_at_call 12; (with_reducible refine (HR.out _).mono ?_); rintro e w4 ⟨rfl, hb4⟩; have H4 := Lib.hid (HH.out.next hb4); have B4 := Lib.hid (grow3 HB.out hb4); clear hb4; have y0 : w4.cell? ⟨w3.heap.size, 0, none⟩ = some (.int .i64 1) := H4.out.at 0; have y1 : w4.cell? ⟨w3.heap.size, 1, none⟩ = some (.string s) := H4.out.at 1; have y2 : w4.cell? ⟨w3.heap.size, 2, none⟩ = some (.int .i64 0) := H4.out.at 2)
        go_roundw
        case rel => exact ⟨1, by omega, by go_num, upto HN.out HF.out, H4.out, B4.out⟩
        case measure => simp [intOf]
      · have HR := Lib.hid (right_at 1 s 0 true Hm.out (by show rightV (1, s, 0) = _; rw [← Hc0.out]; exact hrv))
        obtain ⟨l, hl⟩ : ∃ l, wput (cand s 0) = l := ⟨_, rfl⟩
        have HP := Lib.hid (put_at 1 s 0 l (by have := Hin.out 0; rw [Hc0.out] at this; exact this) Hm.out (by show wput (1, s, 0) = _; rw [← Hc0.out]; exact hl))
        have HF := Lib.hid (ok_split hl)
        rw [hrv] at HF
        clear hrv hl
        rcases hq : (l == s.toList)
        · have HG := Lib.hid (show candOk s 0 = false by rw [HF.out, hq]; rfl)
          clear HF
          go_wp2_with (first | (go_at_call 12; (with_reducible refine (HR.out _).mono ?_); rintro e w4 ⟨rfl, hb4⟩; have H4 := Lib.hid (HH.out.next hb4); have B4 := Lib.hid (grow3 HB.out hb4); clear hb4; have y0 : w4.cell? ⟨w3.heap.size, 0, none⟩ = some (.int .i64 1) := H4.out.at 0; have y1 : w4.cell? ⟨w3.heap.size, 1, none⟩ = some (.string s) := H4.out.at 1; have y2 : w4.cell? ⟨w3.heap.size, 2, none⟩ = some (.int .i64 0) := H4.out.at 2) | (go_at_call 14; (with_reducible refine (HP.out _).mono ?_); rintro e w5 ⟨rfl, hb5⟩; have H5 := Lib.hid (H4.out.next hb5); have B5 := Lib.hid (grow3 B4.out hb5); clear hb5; obtain ⟨⟨p0, p1, p2⟩, ⟨z0, z1, z2⟩, hlt⟩ := H5.out.out; have v0 : w5.cell? ⟨w3.heap.size, 0, none⟩ = some (.int .i64 1) := H5.out.at 0; have v1 : w5.cell? ⟨w3.heap.size, 1, none⟩ = some (.string s) := H5.out.at 1; have v2 : w5.cell? ⟨w3.heap.size, 2, none⟩ = some (.int .i64 0) := H5.out.at 2))
          go_roundw
          case rel => exact ⟨1, by omega, by go_num, upto HN.out HG.out, H5.out, B5.out⟩
          case measure => simp [intOf]
        · have HG := Lib.hid (Hyes.out 0 (by rw [HF.out, hq]; rfl))
          clear HF
          go_wp2_with (first | (go_at_call 12; (with_reducible refine (HR.out _).mono ?_); rintro e w4 ⟨rfl, hb4⟩; have H4 := Lib.hid (HH.out.next hb4); have B4 := Lib.hid (grow3 HB.out hb4); clear hb4; have y0 : w4.cell? ⟨w3.heap.size, 0, none⟩ = some (.int .i64 1) := H4.out.at 0; have y1 : w4.cell? ⟨w3.heap.size, 1, none⟩ = some (.string s) := H4.out.at 1; have y2 : w4.cell? ⟨w3.heap.size, 2, none⟩ = some (.int .i64 0) := H4.out.at 2) | (go_at_call 14; (with_reducible refine (HP.out _).mono ?_); rintro e w5 ⟨rfl, hb5⟩; have H5 := Lib.hid (H4.out.next hb5); have B5 := Lib.hid (grow3 B4.out hb5); clear hb5; obtain ⟨⟨p0, p1, p2⟩, ⟨z0, z1, z2⟩, hlt⟩ := H5.out.out; have v0 : w5.cell? ⟨w3.heap.size, 0, none⟩ = some (.int .i64 1) := H5.out.at 0; have v1 : w5.cell? ⟨w3.heap.size, 1, none⟩ = some (.string s) := H5.out.at 1; have v2 : w5.cell? ⟨w3.heap.size, 2, none⟩ = some (.int .i64 0) := H5.out.at 2))
          (try simp only [Exit.inBlock, Exit.then])
          refine bodyPost_ret (v := .tuple #[.agg #[.int .i64 1, .string s, .int .i64 0], .bool true]) (by rw [results_cell_tmp rfl]; go_simp) rfl ⟨by rw [HG.out, Hc0.out]; rfl, put3b B5.out⟩
    · have x0 : wr.cell? ⟨w3.heap.size, 3, none⟩ = some (.int .i64 2) := HH.out.at 3
      have x1 : wr.cell? ⟨w3.heap.size, 4, none⟩ = some (.string ⟨#[]⟩) := HH.out.at 4
      have x2 : wr.cell? ⟨w3.heap.size, 5, none⟩ = some (.int .i64 a) := HH.out.at 5
      rcases hrv : rightV (cand s 1)
      · have HR := Lib.hid (right_at 2 ⟨#[]⟩ a false (by decide) (by show rightV (2, e0, a) = _; rw [← Hc1.out]; exact hrv))
        have HF := Lib.hid (show candOk s 1 = false by rw [ok_split rfl, hrv]; rfl)
        clear hrv
        go_wp2_with (go_at_call 12; (with_reducible refine (HR.out _).mono ?_); rintro e w4 ⟨rfl, hb4⟩; have H4 := Lib.hid (HH.out.next hb4); have B4 := Lib.hid (grow3 HB.out hb4); clear hb4; have y0 : w4.cell? ⟨w3.heap.size, 3, none⟩ = some (.int .i64 2) := H4.out.at 3; have y1 : w4.cell? ⟨w3.heap.size, 4, none⟩ = some (.string ⟨#[]⟩) := H4.out.at 4; have y2 : w4.cell? ⟨w3.heap.size, 5, none⟩ = some (.int .i64 a) := H4.out.at 5)
        go_roundw
        case rel => exact ⟨2, by omega, by go_num, upto HN.out HF.out, H4.out, B4.out⟩
        case measure => simp [intOf]
      · have HR := Lib.hid (right_at 2 ⟨#[]⟩ a true (by decide) (by show rightV (2, e0, a) = _; rw [← Hc1.out]; exact hrv))
        obtain ⟨l, hl⟩ : ∃ l, wput (cand s 1) = l := ⟨_, rfl⟩
        have HP := Lib.hid (put_at 2 ⟨#[]⟩ a l (by have := Hin.out 1; rw [Hc1.out] at this; exact this) (by decide) (by show wput (2, e0, a) = _; rw [← Hc1.out]; exact hl))
        have HF := Lib.hid (ok_split hl)
        rw [hrv] at HF
        clear hrv hl
        rcases hq : (l == s.toList)
        · have HG := Lib.hid (show candOk s 1 = false by rw [HF.out, hq]; rfl)
          clear HF
          go_wp2_with (first | (go_at_call 12; (with_reducible refine (HR.out _).mono ?_); rintro e w4 ⟨rfl, hb4⟩; have H4 := Lib.hid (HH.out.next hb4); have B4 := Lib.hid (grow3 HB.out hb4); clear hb4; have y0 : w4.cell? ⟨w3.heap.size, 3, none⟩ = some (.int .i64 2) := H4.out.at 3; have y1 : w4.cell? ⟨w3.heap.size, 4, none⟩ = some (.string ⟨#[]⟩) := H4.out.at 4; have y2 : w4.cell? ⟨w3.heap.size, 5, none⟩ = some (.int .i64 a) := H4.out.at 5) | (go_at_call 14; (with_reducible refine (HP.out _).mono ?_); rintro e w5 ⟨rfl, hb5⟩; have H5 := Lib.hid (H4.out.next hb5); have B5 := Lib.hid (grow3 B4.out hb5); clear hb5; obtain ⟨⟨p0, p1, p2⟩, ⟨z0, z1, z2⟩, hlt⟩ := H5.out.out; have v0 : w5.cell? ⟨w3.heap.size, 3, none⟩ = some (.int .i64 2) := H5.out.at 3; have v1 : w5.cell? ⟨w3.heap.size, 4, none⟩ = some (.string ⟨#[]⟩) := H5.out.at 4; have v2 : w5.cell? ⟨w3.heap.size, 5, none⟩ = some (.int .i64 a) := H5.out.at 5))
          go_roundw
          case rel => exact ⟨2, by omega, by go_num, upto HN.out HG.out, H5.out, B5.out⟩
          case measure => simp [intOf]
        · have HG := Lib.hid (Hyes.out 1 (by rw [HF.out, hq]; rfl))
          clear HF
          go_wp2_with (first | (go_at_call 12; (with_reducible refine (HR.out _).mono ?_); rintro e w4 ⟨rfl, hb4⟩; have H4 := Lib.hid (HH.out.next hb4); have B4 := Lib.hid (grow3 HB.out hb4); clear hb4; have y0 : w4.cell? ⟨w3.heap.size, 3, none⟩ = some (.int .i64 2) := H4.out.at 3; have y1 : w4.cell? ⟨w3.heap.size, 4, none⟩ = some (.string ⟨#[]⟩) := H4.out.at 4; have y2 : w4.cell? ⟨w3.heap.size, 5, none⟩ = some (.int .i64 a) := H4.out.at 5) | (go_at_call 14; (with_reducible refine (HP.out _).mono ?_); rintro e w5 ⟨rfl, hb5⟩; have H5 := Lib.hid (H4.out.next hb5); have B5 := Lib.hid (grow3 B4.out hb5); clear hb5; obtain ⟨⟨p0, p1, p2⟩, ⟨z0, z1, z2⟩, hlt⟩ := H5.out.out; have v0 : w5.cell? ⟨w3.heap.size, 3, none⟩ = some (.int .i64 2) := H5.out.at 3; have v1 : w5.cell? ⟨w3.heap.size, 4, none⟩ = some (.string ⟨#[]⟩) := H5.out.at 4; have v2 : w5.cell? ⟨w3.heap.size, 5, none⟩ = some (.int .i64 a) := H5.out.at 5))
          (try simp only [Exit.inBlock, Exit.then])
          refine bodyPost_ret (v := .tuple #[.agg #[.int .i64 2, .string ⟨#[]⟩, .int .i64 a], .bool true]) (by rw [results_cell_tmp rfl]; go_simp) rfl ⟨by rw [HG.out, Hc1.out]; rfl, put3b B5.out⟩
    · have x0 : wr.cell? ⟨w3.heap.size, 6, none⟩ = some (.int .i64 3) := HH.out.at 6
      have x1 : wr.cell? ⟨w3.heap.size, 7, none⟩ = some (.string ⟨#[]⟩) := HH.out.at 7
      have x2 : wr.cell? ⟨w3.heap.size, 8, none⟩ = some (.int .i64 b) := HH.out.at 8
      rcases hrv : rightV (cand s 2)
      · have HR := Lib.hid (right_at 3 ⟨#[]⟩ b false (by decide) (by show rightV (3, e0, b) = _; rw [← Hc2.out]; exact hrv))
        have HF := Lib.hid (show candOk s 2 = false by rw [ok_split rfl, hrv]; rfl)
        clear hrv
        go_wp2_with (go_at_call 12; (with_reducible refine (HR.out _).mono ?_); rintro e w4 ⟨rfl, hb4⟩; have H4 := Lib.hid (HH.out.next hb4); have B4 := Lib.hid (grow3 HB.out hb4); clear hb4; have y0 : w4.cell? ⟨w3.heap.size, 6, none⟩ = some (.int .i64 3) := H4.out.at 6; have y1 : w4.cell? ⟨w3.heap.size, 7, none⟩ = some (.string ⟨#[]⟩) := H4.out.at 7; have y2 : w4.cell? ⟨w3.heap.size, 8, none⟩ = some (.int .i64 b) := H4.out.at 8)
        go_roundw
        case rel => exact ⟨3, by omega, by go_num, upto HN.out HF.out, H4.out, B4.out⟩
        case measure => simp [intOf]
      · have HR := Lib.hid (right_at 3 ⟨#[]⟩ b true (by decide) (by show rightV (3, e0, b) = _; rw [← Hc2.out]; exact hrv))
        obtain ⟨l, hl⟩ : ∃ l, wput (cand s 2) = l := ⟨_, rfl⟩
        have HP := Lib.hid (put_at 3 ⟨#[]⟩ b l (by have := Hin.out 2; rw [Hc2.out] at this; exact this) (by decide) (by show wput (3, e0, b) = _; rw [← Hc2.out]; exact hl))
        have HF := Lib.hid (ok_split hl)
        rw [hrv] at HF
        clear hrv hl
        rcases hq : (l == s.toList)
        · have HG := Lib.hid (show candOk s 2 = false by rw [HF.out, hq]; rfl)
          clear HF
          go_wp2_with (first | (go_at_call 12; (with_reducible refine (HR.out _).mono ?_); rintro e w4 ⟨rfl, hb4⟩; have H4 := Lib.hid (HH.out.next hb4); have B4 := Lib.hid (grow3 HB.out hb4); clear hb4; have y0 : w4.cell? ⟨w3.heap.size, 6, none⟩ = some (.int .i64 3) := H4.out.at 6; have y1 : w4.cell? ⟨w3.heap.size, 7, none⟩ = some (.string ⟨#[]⟩) := H4.out.at 7; have y2 : w4.cell? ⟨w3.heap.size, 8, none⟩ = some (.int .i64 b) := H4.out.at 8) | (go_at_call 14; (with_reducible refine (HP.out _).mono ?_); rintro e w5 ⟨rfl, hb5⟩; have H5 := Lib.hid (H4.out.next hb5); have B5 := Lib.hid (grow3 B4.out hb5); clear hb5; obtain ⟨⟨p0, p1, p2⟩, ⟨z0, z1, z2⟩, hlt⟩ := H5.out.out; have v0 : w5.cell? ⟨w3.heap.size, 6, none⟩ = some (.int .i64 3) := H5.out.at 6; have v1 : w5.cell? ⟨w3.heap.size, 7, none⟩ = some (.string ⟨#[]⟩) := H5.out.at 7; have v2 : w5.cell? ⟨w3.heap.size, 8, none⟩ = some (.int .i64 b) := H5.out.at 8))
          go_roundw
          case rel => exact ⟨3, by omega, by go_num, upto HN.out HG.out, H5.out, B5.out⟩
          case measure => simp [intOf]
        · have HG := Lib.hid (Hyes.out 2 (by rw [HF.out, hq]; rfl))
          clear HF
          go_wp2_with (first | (go_at_call 12; (with_reducible refine (HR.out _).mono ?_); rintro e w4 ⟨rfl, hb4⟩; have H4 := Lib.hid (HH.out.next hb4); have B4 := Lib.hid (grow3 HB.out hb4); clear hb4; have y0 : w4.cell? ⟨w3.heap.size, 6, none⟩ = some (.int .i64 3) := H4.out.at 6; have y1 : w4.cell? ⟨w3.heap.size, 7, none⟩ = some (.string ⟨#[]⟩) := H4.out.at 7; have y2 : w4.cell? ⟨w3.heap.size, 8, none⟩ = some (.int .i64 b) := H4.out.at 8) | (go_at_call 14; (with_reducible refine (HP.out _).mono ?_); rintro e w5 ⟨rfl, hb5⟩; have H5 := Lib.hid (H4.out.next hb5); have B5 := Lib.hid (grow3 B4.out hb5); clear hb5; obtain ⟨⟨p0, p1, p2⟩, ⟨z0, z1, z2⟩, hlt⟩ := H5.out.out; have v0 : w5.cell? ⟨w3.heap.size, 6, none⟩ = some (.int .i64 3) := H5.out.at 6; have v1 : w5.cell? ⟨w3.heap.size, 7, none⟩ = some (.string ⟨#[]⟩) := H5.out.at 7; have v2 : w5.cell? ⟨w3.heap.size, 8, none⟩ = some (.int .i64 b) := H5.out.at 8))
          (try simp only [Exit.inBlock, Exit.then])
          refine bodyPost_ret (v := .tuple #[.agg #[.int .i64 3, .string ⟨#[]⟩, .int .i64 b], .bool true]) (by rw [results_cell_tmp rfl]; go_simp) rfl ⟨by rw [HG.out, Hc2.out]; rfl, put3b B5.out⟩
    · have x0 : wr.cell? ⟨w3.heap.size, 9, none⟩ = some (.int .i64 4) := HH.out.at 9
      have x1 : wr.cell? ⟨w3.heap.size, 10, none⟩ = some (.string ⟨#[]⟩) := HH.out.at 10
      have x2 : wr.cell? ⟨w3.heap.size, 11, none⟩ = some (.int .i64 0) := HH.out.at 11
      rcases hrv : rightV (cand s 3)
      · have HR := Lib.hid (right_at 4 ⟨#[]⟩ 0 false (by decide) (by show rightV (4, e0, 0) = _; rw [← Hc3.out]; exact hrv))
        have HF := Lib.hid (show candOk s 3 = false by rw [ok_split rfl, hrv]; rfl)
        clear hrv
        go_wp2_with (go_at_call 12; (with_reducible refine (HR.out _).mono ?_); rintro e w4 ⟨rfl, hb4⟩; have H4 := Lib.hid (HH.out.next hb4); have B4 := Lib.hid (grow3 HB.out hb4); clear hb4; have y0 : w4.cell? ⟨w3.heap.size, 9, none⟩ = some (.int .i64 4) := H4.out.at 9; have y1 : w4.cell? ⟨w3.heap.size, 10, none⟩ = some (.string ⟨#[]⟩) := H4.out.at 10; have y2 : w4.cell? ⟨w3.heap.size, 11, none⟩ = some (.int .i64 0) := H4.out.at 11)
        go_roundw
        case rel => exact ⟨4, by omega, by go_num, upto HN.out HF.out, H4.out, B4.out⟩
        case measure => simp [intOf]
      · have HR := Lib.hid (right_at 4 ⟨#[]⟩ 0 true (by decide) (by show rightV (4, e0, 0) = _; rw [← Hc3.out]; exact hrv))
        obtain ⟨l, hl⟩ : ∃ l, wput (cand s 3) = l := ⟨_, rfl⟩
        have HP := Lib.hid (put_at 4 ⟨#[]⟩ 0 l (by have := Hin.out 3; rw [Hc3.out] at this; exact this) (by decide) (by show wput (4, e0, 0) = _; rw [← Hc3.out]; exact hl))
        have HF := Lib.hid (ok_split hl)
        rw [hrv] at HF
        clear hrv hl
        rcases hq : (l == s.toList)
        · have HG := Lib.hid (show candOk s 3 = false by rw [HF.out, hq]; rfl)
          clear HF
          go_wp2_with (first | (go_at_call 12; (with_reducible refine (HR.out _).mono ?_); rintro e w4 ⟨rfl, hb4⟩; have H4 := Lib.hid (HH.out.next hb4); have B4 := Lib.hid (grow3 HB.out hb4); clear hb4; have y0 : w4.cell? ⟨w3.heap.size, 9, none⟩ = some (.int .i64 4) := H4.out.at 9; have y1 : w4.cell? ⟨w3.heap.size, 10, none⟩ = some (.string ⟨#[]⟩) := H4.out.at 10; have y2 : w4.cell? ⟨w3.heap.size, 11, none⟩ = some (.int .i64 0) := H4.out.at 11) | (go_at_call 14; (with_reducible refine (HP.out _).mono ?_); rintro e w5 ⟨rfl, hb5⟩; have H5 := Lib.hid (H4.out.next hb5); have B5 := Lib.hid (grow3 B4.out hb5); clear hb5; obtain ⟨⟨p0, p1, p2⟩, ⟨z0, z1, z2⟩, hlt⟩ := H5.out.out; have v0 : w5.cell? ⟨w3.heap.size, 9, none⟩ = some (.int .i64 4) := H5.out.at 9; have v1 : w5.cell? ⟨w3.heap.size, 10, none⟩ = some (.string ⟨#[]⟩) := H5.out.at 10; have v2 : w5.cell? ⟨w3.heap.size, 11, none⟩ = some (.int .i64 0) := H5.out.at 11))
          go_roundw
          case rel => exact ⟨4, by omega, by go_num, upto HN.out HG.out, H5.out, B5.out⟩
          case measure => simp [intOf]
        · have HG := Lib.hid (Hyes.out 3 (by rw [HF.out, hq]; rfl))
          clear HF
          go_wp2_with (first | (go_at_call 12; (with_reducible refine (HR.out _).mono ?_); rintro e w4 ⟨rfl, hb4⟩; have H4 := Lib.hid (HH.out.next hb4); have B4 := Lib.hid (grow3 HB.out hb4); clear hb4; have y0 : w4.cell? ⟨w3.heap.size, 9, none⟩ = some (.int .i64 4) := H4.out.at 9; have y1 : w4.cell? ⟨w3.heap.size, 10, none⟩ = some (.string ⟨#[]⟩) := H4.out.at 10; have y2 : w4.cell? ⟨w3.heap.size, 11, none⟩ = some (.int .i64 0) := H4.out.at 11) | (go_at_call 14; (with_reducible refine (HP.out _).mono ?_); rintro e w5 ⟨rfl, hb5⟩; have H5 := Lib.hid (H4.out.next hb5); have B5 := Lib.hid (grow3 B4.out hb5); clear hb5; obtain ⟨⟨p0, p1, p2⟩, ⟨z0, z1, z2⟩, hlt⟩ := H5.out.out; have v0 : w5.cell? ⟨w3.heap.size, 9, none⟩ = some (.int .i64 4) := H5.out.at 9; have v1 : w5.cell? ⟨w3.heap.size, 10, none⟩ = some (.string ⟨#[]⟩) := H5.out.at 10; have v2 : w5.cell? ⟨w3.heap.size, 11, none⟩ = some (.int .i64 0) := H5.out.at 11))
          (try simp only [Exit.inBlock, Exit.then])
          refine bodyPost_ret (v := .tuple #[.agg #[.int .i64 4, .string ⟨#[]⟩, .int .i64 0], .bool true]) (by rw [results_cell_tmp rfl]; go_simp) rfl ⟨by rw [HG.out, Hc3.out]; rfl, put3b B5.out⟩
    · have x0 : wr.cell? ⟨w3.heap.size, 12, none⟩ = some (.int .i64 5) := HH.out.at 12
      have x1 : wr.cell? ⟨w3.heap.size, 13, none⟩ = some (.string ⟨#[]⟩) := HH.out.at 13
      have x2 : wr.cell? ⟨w3.heap.size, 14, none⟩ = some (.int .i64 c) := HH.out.at 14
      rcases hrv : rightV (cand s 4)
      · have HR := Lib.hid (right_at 5 ⟨#[]⟩ c false (by decide) (by show rightV (5, e0, c) = _; rw [← Hc4.out]; exact hrv))
        have HF := Lib.hid (show candOk s 4 = false by rw [ok_split rfl, hrv]; rfl)
        clear hrv
        go_wp2_with (go_at_call 12; (with_reducible refine (HR.out _).mono ?_); rintro e w4 ⟨rfl, hb4⟩; have H4 := Lib.hid (HH.out.next hb4); have B4 := Lib.hid (grow3 HB.out hb4); clear hb4; have y0 : w4.cell? ⟨w3.heap.size, 12, none⟩ = some (.int .i64 5) := H4.out.at 12; have y1 : w4.cell? ⟨w3.heap.size, 13, none⟩ = some (.string ⟨#[]⟩) := H4.out.at 13; have y2 : w4.cell? ⟨w3.heap.size, 14, none⟩ = some (.int .i64 c) := H4.out.at 14)
        go_roundw
        case rel => exact ⟨5, by omega, by go_num, upto HN.out HF.out, H4.out, B4.out⟩
        case measure => simp [intOf]
      · have HR := Lib.hid (right_at 5 ⟨#[]⟩ c true (by decide) (by show rightV (5, e0, c) = _; rw [← Hc4.out]; exact hrv))
        obtain ⟨l, hl⟩ : ∃ l, wput (cand s 4) = l := ⟨_, rfl⟩
        have HP := Lib.hid (put_at 5 ⟨#[]⟩ c l (by have := Hin.out 4; rw [Hc4.out] at this; exact this) (by decide) (by show wput (5, e0, c) = _; rw [← Hc4.out]; exact hl))
        have HF := Lib.hid (ok_split hl)
        rw [hrv] at HF
        clear hrv hl
        rcases hq : (l == s.toList)
        · have HG := Lib.hid (show candOk s 4 = false by rw [HF.out, hq]; rfl)
          clear HF
          go_wp2_with (first | (go_at_call 12; (with_reducible refine (HR.out _).mono ?_); rintro e w4 ⟨rfl, hb4⟩; have H4 := Lib.hid (HH.out.next hb4); have B4 := Lib.hid (grow3 HB.out hb4); clear hb4; have y0 : w4.cell? ⟨w3.heap.size, 12, none⟩ = some (.int .i64 5) := H4.out.at 12; have y1 : w4.cell? ⟨w3.heap.size, 13, none⟩ = some (.string ⟨#[]⟩) := H4.out.at 13; have y2 : w4.cell? ⟨w3.heap.size, 14, none⟩ = some (.int .i64 c) := H4.out.at 14) | (go_at_call 14; (with_reducible refine (HP.out _).mono ?_); rintro e w5 ⟨rfl, hb5⟩; have H5 := Lib.hid (H4.out.next hb5); have B5 := Lib.hid (grow3 B4.out hb5); clear hb5; obtain ⟨⟨p0, p1, p2⟩, ⟨z0, z1, z2⟩, hlt⟩ := H5.out.out; have v0 : w5.cell? ⟨w3.heap.size, 12, none⟩ = some (.int .i64 5) := H5.out.at 12; have v1 : w5.cell? ⟨w3.heap.size, 13, none⟩ = some (.string ⟨#[]⟩) := H5.out.at 13; have v2 : w5.cell? ⟨w3.heap.size, 14, none⟩ = some (.int .i64 c) := H5.out.at 14))
          go_roundw
          case rel => exact ⟨5, by omega, by go_num, upto HN.out HG.out, H5.out, B5.out⟩
          case measure => simp [intOf]
        · have HG := Lib.hid (Hyes.out 4 (by rw [HF.out, hq]; rfl))
          clear HF
          go_wp2_with (first | (go_at_call 12; (with_reducible refine (HR.out _).mono ?_); rintro e w4 ⟨rfl, hb4⟩; have H4 := Lib.hid (HH.out.next hb4); have B4 := Lib.hid (grow3 HB.out hb4); clear hb4; have y0 : w4.cell? ⟨w3.heap.size, 12, none⟩ = some (.int .i64 5) := H4.out.at 12; have y1 : w4.cell? ⟨w3.heap.size, 13, none⟩ = some (.string ⟨#[]⟩) := H4.out.at 13; have y2 : w4.cell? ⟨w3.heap.size, 14, none⟩ = some (.int .i64 c) := H4.out.at 14) | (go_at_call 14; (with_reducible refine (HP.out _).mono ?_); rintro e w5 ⟨rfl, hb5⟩; have H5 := Lib.hid (H4.out.next hb5); have B5 := Lib.hid (grow3 B4.out hb5); clear hb5; obtain ⟨⟨p0, p1, p2⟩, ⟨z0, z1, z2⟩, hlt⟩ := H5.out.out; have v0 : w5.cell? ⟨w3.heap.size, 12, none⟩ = some (.int .i64 5) := H5.out.at 12; have v1 : w5.cell? ⟨w3.heap.size, 13, none⟩ = some (.string ⟨#[]⟩) := H5.out.at 13; have v2 : w5.cell? ⟨w3.heap.size, 14, none⟩ = some (.int .i64 c) := H5.out.at 14))
          (try simp only [Exit.inBlock, Exit.then])
          refine bodyPost_ret (v := .tuple #[.agg #[.int .i64 5, .string ⟨#[]⟩, .int .i64 c], .bool true]) (by rw [results_cell_tmp rfl]; go_simp) rfl ⟨by rw [HG.out, Hc4.out]; rfl, put3b B5.out⟩
    · obtain ⟨⟨p0, p1, p2⟩, ⟨z0, z1, z2⟩, hlt⟩ := HH.out.out
      go_wp2_with fail
      (try simp only [Exit.inBlock, Exit.then])
      refine bodyPost_ret (v := .tuple #[.agg #[.int .i64 0, .string ⟨#[]⟩, .int .i64 0], .bool false]) (by rw [results_cell_tmp rfl]; go_simp) rfl ⟨by rw [Hno.out HN.out]; rfl, put3b HB.out⟩

theorem get_any (s : ByteArray) (hm : s.size ≤ maxLen) (w : World) :
    Calls Try.prog 16 #[.string s] w fun e w' => e = .returned (.tuple #[val (wget s).1, .bool (wget s).2]) ∧ Below w.heap.size w w' := by
  have hm' : s.size ≤ 9223372036854775807 := hm
  by_cases h : s.size = 0
  · exact get_none s hm' w h
  · exact get_some s hm' w (by omega)
end Go.Proofs.Ytfihnnfjkhcgkaa.R03
