/-
  What the statements of layer 3 share: the answers that the document fixes.
-/
import Derived.Test.YtfihnnfjkhcgkaaWordGot
namespace Go.Proofs.Ytfihnnfjkhcgkaa
open Go.RowKit NumM FloM WordM Mem

set_option maxRecDepth 100000 in
set_option maxHeartbeats 8000000 in
theorem awake_any (w : World) : Calls Try.prog 8 #[] w fun e w' => e = .returned (.bool true) ∧ Below w.heap.size w w' := by
  have q1 := wget_at ⟨#[120, 49]⟩ 1 ⟨#[120, 49]⟩ 0 true (by decide) (by decide +kernel)
  have q2 := wget_at ⟨#[45, 53]⟩ 2 ⟨#[]⟩ (-5) true (by decide) (by decide +kernel)
  have q3 := wget_at ⟨#[35, 51]⟩ 5 ⟨#[]⟩ 3 true (by decide) (by decide +kernel)
  have q4 := wget_at ⟨#[105, 110, 116]⟩ 0 ⟨#[]⟩ 0 false (by decide) (by decide +kernel)
  have q5 := wget_at ⟨#[35, 48, 51]⟩ 0 ⟨#[]⟩ 0 false (by decide) (by decide +kernel)
  have n1 := fun w => name_any ⟨#[95, 97]⟩ w
  have n2 := fun w => name_any ⟨#[49, 97]⟩ w
  rw [show nameV (⟨#[95, 97]⟩ : ByteArray).data.toList = true from by decide +kernel] at n1
  rw [show nameV (⟨#[49, 97]⟩ : ByteArray).data.toList = false from by decide +kernel] at n2
  have Q1 := Lib.hid q1
  have Q2 := Lib.hid q2
  have Q3 := Lib.hid q3
  have Q4 := Lib.hid q4
  have Q5 := Lib.hid q5
  have N1 := Lib.hid n1
  have N2 := Lib.hid n2
  clear q1 q2 q3 q4 q5 n1 n2
  go_enter Try.func8, Try.ntmps8
  go_wp2_with fail
  refine (Q1.out _).mono ?_; rintro e w1 ⟨rfl, hb1⟩
  have B1 := Lib.hid hb1
  clear hb1
  go_wp2_with fail
  refine (Q2.out _).mono ?_; rintro e w2 ⟨rfl, hb2⟩
  have P12 := Lib.hid (made3 hb2)
  have B2 := Lib.hid (grow3 (B1.out.alloc B1.out.size _) hb2)
  clear hb2
  go_wp2_with fail
  refine (Q3.out _).mono ?_; rintro e w3 ⟨rfl, hb3⟩
  have P13 := Lib.hid (keep3 P12.out hb3)
  have P23 := Lib.hid (made3 hb3)
  have B3 := Lib.hid (grow3 (B2.out.alloc B2.out.size _) hb3)
  clear hb3
  go_wp2_with fail
  refine (Q4.out _).mono ?_; rintro e w4 ⟨rfl, hb4⟩
  have P14 := Lib.hid (keep3 P13.out hb4)
  have P24 := Lib.hid (keep3 P23.out hb4)
  have P34 := Lib.hid (made3 hb4)
  have B4 := Lib.hid (grow3 (B3.out.alloc B3.out.size _) hb4)
  clear hb4
  go_wp2_with fail
  refine (Q5.out _).mono ?_; rintro e w5 ⟨rfl, hb5⟩
  obtain ⟨⟨c0, c1, c2⟩, _, l1⟩ := own3 (keep3 P14.out hb5)
  obtain ⟨⟨d0, d1, d2⟩, _, l2⟩ := own3 (keep3 P24.out hb5)
  obtain ⟨⟨f0, f1, f2⟩, _, l3⟩ := own3 (keep3 P34.out hb5)
  have B5 := Lib.hid (grow3 (B4.out.alloc B4.out.size _) hb5)
  clear hb5
  go_wp2_with fail
  refine (N1.out _).mono ?_; rintro e w' ⟨rfl, rfl⟩
  go_wp2_with fail
  refine (N2.out _).mono ?_; rintro e w' ⟨rfl, rfl⟩
  go_wp2_with fail
  go_ret
  exact ⟨rfl, B5.out.alloc B5.out.size _⟩
end Go.Proofs.Ytfihnnfjkhcgkaa
