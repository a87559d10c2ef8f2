/-
  An argument that is written is read as it was; what is read is right, and is written as it stood: the statement WordBack. No condition.
-/
import Derived.Test.YtfihnnfjkhcgkaaLaw03
import Derived.Test.YtfihnnfjkhcgkaaShell
import Derived.ProofKit
import Derived.OpenShut
import Derived.Lib.SmallJoins
namespace Go.Proofs.Ytfihnnfjkhcgkaa.wordBack
open Go.ChangeShapes Go.WideShapes Go.ChangeAt Go.RowKit
open NumM FloM WordM Mem

set_option maxHeartbeats 8000000 in
theorem walk_ry (k : Int) (u : ByteArray) (n : Int) (s : ByteArray) (hn : In n) (hs : s.size ≤ maxLen) (h : rightV (k, u, n) = true) (hg : (wget s).2 = true) (w : World) :
    Calls Try.prog 6 #[.agg #[.int .i64 k, .string u, .int .i64 n], .string s] w fun e w' => e = .returned (.bool true) ∧ Below w.heap.size w w' := by
  have Q1 := Lib.hid (wright_at k u n _ h)
  obtain ⟨l, hl⟩ : ∃ l, wput (k, u, n) = l := ⟨_, rfl⟩
  have Q2 := Lib.hid (wput_at k u n l hn hl)
  have Q3 := Lib.hid (wget_at ⟨l.toArray⟩ k u n true (by have h1 := wput_len h hn; rw [hl] at h1; unfold maxLen; show l.toArray.size ≤ _; simp; omega) (wget_of hn h (by rw [hl])))
  clear hl
  obtain ⟨hr, hp, hi⟩ := wget_back hg
  obtain ⟨⟨⟨k', u', n'⟩, b⟩, hgg⟩ : ∃ g, wget s = g := ⟨_, rfl⟩
  rw [hgg] at hr hp hi hg
  simp only at hg
  subst hg
  have Q4 := Lib.hid (wget_at s k' u' n' true hs hgg)
  have Q5 := Lib.hid (wright_at k' u' n' true hr)
  have q6 := wput_at k' u' n' _ hi hp
  rw [bytes_of] at q6
  have Q6 := Lib.hid q6
  clear hr hp hi hgg q6 h hn hs
  go_enter Try.func6, Try.ntmps6
  go_wp2_with fail
  refine (awake_any _).mono ?_; rintro e w1 ⟨rfl, hb1⟩
  have O1 := Lib.hid (made3 hb1)
  have B1 := Lib.hid (grow3 (one_more _ _) hb1)
  obtain ⟨⟨c0, c1, c2⟩, _, l1⟩ := own3 O1.out
  clear hb1
  go_wp2_with fail
  refine (Q1.out _).mono ?_; rintro e w2 ⟨rfl, hb2⟩
  have O2 := Lib.hid (O1.out.below hb2 O1.out.lt)
  have B2 := Lib.hid (grow3 B1.out hb2)
  obtain ⟨⟨d0, d1, d2⟩, _, l2⟩ := own3 O2.out
  clear hb2
  go_wp2_with fail
  refine (Q2.out _).mono ?_; rintro e w3 ⟨rfl, hb3⟩
  have O3 := Lib.hid (O2.out.below hb3 O2.out.lt)
  have B3 := Lib.hid (grow3 B2.out hb3)
  clear hb3
  go_wp2_with fail
  refine (Q3.out _).mono ?_; rintro e w4 ⟨rfl, hb4⟩
  have O4 := Lib.hid (O3.out.below hb4 O3.out.lt)
  have B4 := Lib.hid (grow3 B3.out hb4)
  obtain ⟨⟨f0, f1, f2⟩, _, l4⟩ := own3 O4.out
  clear hb4
  go_wp2_with fail
  refine (Q4.out _).mono ?_; rintro e w5 ⟨rfl, hb5⟩
  have B5 := Lib.hid (grow3 (B4.out.alloc B4.out.size _) hb5)
  clear hb5
  go_wp2_with fail
  refine (Q5.out _).mono ?_; rintro e w6 ⟨rfl, hb6⟩
  have O6 := Lib.hid (made3 hb6)
  have B6 := Lib.hid (grow3 (B5.out.alloc B5.out.size _) hb6)
  obtain ⟨⟨g0, g1, g2⟩, _, l6⟩ := own3 O6.out
  clear hb6
  go_wp2_with fail
  refine (Q6.out _).mono ?_; rintro e w7 ⟨rfl, hb7⟩
  have B7 := Lib.hid (grow3 B6.out hb7)
  clear hb7
  go_wp2_with fail
  go_ret
  exact ⟨rfl, B7.out⟩

set_option maxHeartbeats 8000000 in
theorem walk_rn (k : Int) (u : ByteArray) (n : Int) (s : ByteArray) (hn : In n) (hs : s.size ≤ maxLen) (h : rightV (k, u, n) = true) (hg : (wget s).2 = false) (w : World) :
    Calls Try.prog 6 #[.agg #[.int .i64 k, .string u, .int .i64 n], .string s] w fun e w' => e = .returned (.bool true) ∧ Below w.heap.size w w' := by
  have Q1 := Lib.hid (wright_at k u n _ h)
  obtain ⟨l, hl⟩ : ∃ l, wput (k, u, n) = l := ⟨_, rfl⟩
  have Q2 := Lib.hid (wput_at k u n l hn hl)
  have Q3 := Lib.hid (wget_at ⟨l.toArray⟩ k u n true (by have h1 := wput_len h hn; rw [hl] at h1; unfold maxLen; show l.toArray.size ≤ _; simp; omega) (wget_of hn h (by rw [hl])))
  clear hl
  have Q4 := Lib.hid (wget_at s 0 ⟨#[]⟩ 0 false hs (Prod.ext (wget_none hg) hg))
  clear hg h hn hs
  go_enter Try.func6, Try.ntmps6
  go_wp2_with fail
  refine (awake_any _).mono ?_; rintro e w1 ⟨rfl, hb1⟩
  have O1 := Lib.hid (made3 hb1)
  have B1 := Lib.hid (grow3 (one_more _ _) hb1)
  obtain ⟨⟨c0, c1, c2⟩, _, l1⟩ := own3 O1.out
  clear hb1
  go_wp2_with fail
  refine (Q1.out _).mono ?_; rintro e w2 ⟨rfl, hb2⟩
  have O2 := Lib.hid (O1.out.below hb2 O1.out.lt)
  have B2 := Lib.hid (grow3 B1.out hb2)
  obtain ⟨⟨d0, d1, d2⟩, _, l2⟩ := own3 O2.out
  clear hb2
  go_wp2_with fail
  refine (Q2.out _).mono ?_; rintro e w3 ⟨rfl, hb3⟩
  have O3 := Lib.hid (O2.out.below hb3 O2.out.lt)
  have B3 := Lib.hid (grow3 B2.out hb3)
  clear hb3
  go_wp2_with fail
  refine (Q3.out _).mono ?_; rintro e w4 ⟨rfl, hb4⟩
  have O4 := Lib.hid (O3.out.below hb4 O3.out.lt)
  have B4 := Lib.hid (grow3 B3.out hb4)
  obtain ⟨⟨f0, f1, f2⟩, _, l4⟩ := own3 O4.out
  clear hb4
  go_wp2_with fail
  refine (Q4.out _).mono ?_; rintro e w5 ⟨rfl, hb5⟩
  have B5 := Lib.hid (grow3 (B4.out.alloc B4.out.size _) hb5)
  clear hb5
  go_wp2_with fail
  go_ret
  exact ⟨rfl, B5.out.alloc B5.out.size _⟩

set_option maxHeartbeats 8000000 in
theorem walk_wy (k : Int) (u : ByteArray) (n : Int) (s : ByteArray) (hn : In n) (hs : s.size ≤ maxLen) (h : rightV (k, u, n) = false) (hg : (wget s).2 = true) (w : World) :
    Calls Try.prog 6 #[.agg #[.int .i64 k, .string u, .int .i64 n], .string s] w fun e w' => e = .returned (.bool true) ∧ Below w.heap.size w w' := by
  have Q1 := Lib.hid (wright_at k u n _ h)
  have Q2 := Lib.hid (wput_at k u n [] hn (by unfold wput; rw [if_neg (by rw [h]; simp)]))
  obtain ⟨hr, hp, hi⟩ := wget_back hg
  obtain ⟨⟨⟨k', u', n'⟩, b⟩, hgg⟩ : ∃ g, wget s = g := ⟨_, rfl⟩
  rw [hgg] at hr hp hi hg
  simp only at hg
  subst hg
  have Q4 := Lib.hid (wget_at s k' u' n' true hs hgg)
  have Q5 := Lib.hid (wright_at k' u' n' true hr)
  have q6 := wput_at k' u' n' _ hi hp
  rw [bytes_of] at q6
  have Q6 := Lib.hid q6
  clear hr hp hi hgg q6 h hn hs
  go_enter Try.func6, Try.ntmps6
  go_wp2_with fail
  refine (awake_any _).mono ?_; rintro e w1 ⟨rfl, hb1⟩
  have O1 := Lib.hid (made3 hb1)
  have B1 := Lib.hid (grow3 (one_more _ _) hb1)
  obtain ⟨⟨c0, c1, c2⟩, _, l1⟩ := own3 O1.out
  clear hb1
  go_wp2_with fail
  refine (Q1.out _).mono ?_; rintro e w2 ⟨rfl, hb2⟩
  have O2 := Lib.hid (O1.out.below hb2 O1.out.lt)
  have B2 := Lib.hid (grow3 B1.out hb2)
  obtain ⟨⟨d0, d1, d2⟩, _, l2⟩ := own3 O2.out
  clear hb2
  go_wp2_with fail
  refine (Q2.out _).mono ?_; rintro e w3 ⟨rfl, hb3⟩
  have O3 := Lib.hid (O2.out.below hb3 O2.out.lt)
  have B3 := Lib.hid (grow3 B2.out hb3)
  clear hb3
  go_wp2_with fail
  refine (Q4.out _).mono ?_; rintro e w5 ⟨rfl, hb5⟩
  have B5 := Lib.hid (grow3 B3.out hb5)
  clear hb5
  go_wp2_with fail
  refine (Q5.out _).mono ?_; rintro e w6 ⟨rfl, hb6⟩
  have O6 := Lib.hid (made3 hb6)
  have B6 := Lib.hid (grow3 (B5.out.alloc B5.out.size _) hb6)
  obtain ⟨⟨g0, g1, g2⟩, _, l6⟩ := own3 O6.out
  clear hb6
  go_wp2_with fail
  refine (Q6.out _).mono ?_; rintro e w7 ⟨rfl, hb7⟩
  have B7 := Lib.hid (grow3 B6.out hb7)
  clear hb7
  go_wp2_with fail
  go_ret
  exact ⟨rfl, B7.out⟩

set_option maxHeartbeats 8000000 in
theorem walk_wn (k : Int) (u : ByteArray) (n : Int) (s : ByteArray) (hn : In n) (hs : s.size ≤ maxLen) (h : rightV (k, u, n) = false) (hg : (wget s).2 = false) (w : World) :
    Calls Try.prog 6 #[.agg #[.int .i64 k, .string u, .int .i64 n], .string s] w fun e w' => e = .returned (.bool true) ∧ Below w.heap.size w w' := by
  have Q1 := Lib.hid (wright_at k u n _ h)
  have Q2 := Lib.hid (wput_at k u n [] hn (by unfold wput; rw [if_neg (by rw [h]; simp)]))
  have Q4 := Lib.hid (wget_at s 0 ⟨#[]⟩ 0 false hs (Prod.ext (wget_none hg) hg))
  clear hg h hn hs
  go_enter Try.func6, Try.ntmps6
  go_wp2_with fail
  refine (awake_any _).mono ?_; rintro e w1 ⟨rfl, hb1⟩
  have O1 := Lib.hid (made3 hb1)
  have B1 := Lib.hid (grow3 (one_more _ _) hb1)
  obtain ⟨⟨c0, c1, c2⟩, _, l1⟩ := own3 O1.out
  clear hb1
  go_wp2_with fail
  refine (Q1.out _).mono ?_; rintro e w2 ⟨rfl, hb2⟩
  have O2 := Lib.hid (O1.out.below hb2 O1.out.lt)
  have B2 := Lib.hid (grow3 B1.out hb2)
  obtain ⟨⟨d0, d1, d2⟩, _, l2⟩ := own3 O2.out
  clear hb2
  go_wp2_with fail
  refine (Q2.out _).mono ?_; rintro e w3 ⟨rfl, hb3⟩
  have O3 := Lib.hid (O2.out.below hb3 O2.out.lt)
  have B3 := Lib.hid (grow3 B2.out hb3)
  clear hb3
  go_wp2_with fail
  refine (Q4.out _).mono ?_; rintro e w5 ⟨rfl, hb5⟩
  have B5 := Lib.hid (grow3 B3.out hb5)
  clear hb5
  go_wp2_with fail
  go_ret
  exact ⟨rfl, B5.out.alloc B5.out.size _⟩

theorem walk (k : Int) (u : ByteArray) (n : Int) (s : ByteArray) (_ : (Lit.int .i64 k).wf = true) (_ : u.size ≤ maxLen) (hn : (Lit.int .i64 n).wf = true) (hs : s.size ≤ maxLen) (w : World) :
    Calls Try.prog 6 #[.agg #[.int .i64 k, .string u, .int .i64 n], .string s] w fun e w' => e = .returned (.bool true) ∧ Below w.heap.size w w' := by
  rcases h : rightV (k, u, n) <;> rcases hg : (wget s).2
  · exact walk_wn k u n s (in_of_wf hn) hs h hg w
  · exact walk_wy k u n s (in_of_wf hn) hs h hg w
  · exact walk_rn k u n s (in_of_wf hn) hs h hg w
  · exact walk_ry k u n s (in_of_wf hn) hs h hg w

set_option maxRecDepth 100000 in
theorem lifted (os : Os) (started : os.Started) (H : Type) (enc : TypeId × Value → H) :
    ReturnsInHanded {} Try.checked os 6 .any (Rows.wordBackSpec.pre6 enc Try.prog Try.f6 Rows.wordBackRow.domain false) (Rows.wordBackSpec.post enc Try.prog Try.f6 false true false false) := by
  refine returnsInHanded_of_change (C := Try.checked) (by kernel_rfl) started (by kernel_rfl) Try.func6
    (ChangeSpec.witness6 (enc := enc) (C := Try.checked) false ⟨#[], #[.agg #[.int .i64 0, .string ⟨#[]⟩, .int .i64 0], .string ⟨#[]⟩], []⟩ 8 (by kernel_rfl) (by kernel_rfl) (by kernel_rfl) (by kernel_rfl)) ?_
  intro W base args ds gs before hval0 hW hcnd _
  have hval : ∀ (j : Nat) t v, Try.f6.params[j]? = some t → args[j]? = some v → Value.okWide Try.prog W .any base t v := hval0
  have hW' := hW
  obtain ⟨p, q, hA0, hV, rfl, hfz, hnd⟩ := hW
  have hA : DataW.TrodAll enc Try.prog W 0 (fun _ => true) true Try.f6.params.toList args.toList ds p := hA0
  rw [Try.params6] at hA hval
  obtain ⟨v0, vs0, d0, ds0, p0, q0, hargs, rfl, rfl, h0, r0⟩ := trodAll_cons hA
  obtain ⟨v1, vs1, d1, ds1, p1, q1, rfl, rfl, rfl, h1, r1⟩ := trodAll_cons r0
  obtain ⟨rfl, rfl, rfl⟩ := trodAll_nil r1
  obtain rfl : args = #[v0, v1] := by cases args; simp_all
  obtain ⟨rfl, rfl⟩ := trodVars_none hV
  obtain ⟨c00, c01, c02, y00, y01, y02, m0, rfl, rfl, rfl, hy00, hy01, hy02⟩ := Go.Joins.open_agg3 Try.underlying25 (by kernel_rfl) (by kernel_rfl) (hval 0 25 v0 rfl rfl) h0
  obtain ⟨a00, e00, rfl, w00⟩ := DataW.trod_int Try.underlying3 hy00
  obtain ⟨a01, e01, rfl, w01⟩ := DataW.trod_string Try.underlying9 hy01
  obtain ⟨a02, e02, rfl, w02⟩ := DataW.trod_int Try.underlying2 hy02
  simp at e00 e01 e02
  subst e00 e01 e02
  obtain ⟨a1, rfl, rfl, rfl, w1⟩ := Go.ChangeMaps.open_string Try.underlying9 (hval 1 9 v1 rfl rfl) h1
  clear hA0 hval0
  simp only [List.append_nil] at hW'
  refine (walk a00 a01 a02 a1 w00 w01 w02 w1 W).mono fun e W' ⟨he, hg⟩ => ?_
  subst he
  exact ⟨_, rfl, Shell.lawPost (by kernel_rfl) rfl (by kernel_rfl) rfl Try.underlying4 hW' rfl hg⟩

/-- The statement. -/
theorem proved : Rows.WordBackSaid :=
  OpenClaim.holds_of_wide 6 Try.f6 rfl rfl rfl rfl rfl rfl rfl ⟨rfl, rfl, rfl, rfl, rfl⟩ rfl rfl rfl rfl rfl (by kernel_rfl) Try.func6 (by kernel_rfl)
    (of_decide_eq_true (by kernel_rfl)) (by unfold Func.isWrapper; first | (rw [if_pos (by decide +kernel)]; kernel_rfl) | (rw [if_neg (by decide +kernel)]; exact ⟨rfl, rfl⟩))
    (fun os started H enc _ => lifted os started H enc)
end Go.Proofs.Ytfihnnfjkhcgkaa.wordBack
