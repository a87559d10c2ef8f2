/-
  A whole number of at most 53 bits is itself as a float, and back; so are its order, and sums within these: the statement FloWhole. No condition.
-/
import Derived.Test.YtdgdkfkdhbnliaaLaw02
import Derived.Test.YtdgdkfkdhbnliaaFloSpan
import Derived.Test.YtdgdkfkdhbnliaaShell
import Derived.ProofKit
import Derived.OpenShut
namespace Go.Proofs.Ytdgdkfkdhbnliaa.floWhole
open Go.ChangeShapes Go.WideShapes Go.ChangeAt Go.RowKit
open NumM FloM Mem

theorem grow {w x y : World} (h : Below w.heap.size w x) (k : Below x.heap.size x y) : Below w.heap.size w y := h.trans (k.mono h.size)

theorem of_at (n x : Int) (h : ofV n = x) (w : World) : Calls Try.prog 16 #[.int .i64 n] w fun e w' => e = .returned (.int .i64 x) ∧ w = w' := by subst h; exact fofint_any n w
theorem to_at (n x : Int) (hn : In n) (h : toV n = x) (w : World) : Calls Try.prog 18 #[.int .i64 n] w fun e w' => e = .returned (.int .i64 x) ∧ w = w' := by subst h; exact ftoint_any n w hn

theorem v15 (a b : Int) : fdo 15 a b = fr (Ieee.double.add (fl a) (fl b)) := rfl
theorem v16 (a b : Int) : fdo 16 a b = fr (Ieee.double.sub (fl a) (fl b)) := rfl
theorem v20 (a b : Int) : fdo 20 a b = tr (Ieee.double.order (fl a) (fl b) == some .lt) := rfl
theorem fr_some (r : Nat) : fr (some r) = wrap64 r := rfl
theorem of_def (n : Int) : ofV n = wrap64 (FloatKind.f64.nearest n : Nat) := rfl
theorem to_of (n : Int) (h : n.natAbs ≤ 9007199254740992) : toV (ofV n) = n := by rw [of_def]; exact rep_to (rep_of n h) h
theorem in_of (n : Int) : In (ofV n) := by rw [of_def]; exact in_wrap _

/-- what the floats of two such numbers make. -/
theorem whole (a b : Int) (ha : -4503599627370496 ≤ a ∧ a ≤ 4503599627370496) (hb : -4503599627370496 ≤ b ∧ b ≤ 4503599627370496) :
    ∃ x y s d, ofV a = x ∧ ofV b = y ∧ (In x ∧ toV x = a) ∧ fdo 20 x y = tr (decide (a < b)) ∧ fdo 15 x y = s ∧ fdo 16 x y = d ∧ (In s ∧ toV s = a + b) ∧ (In d ∧ toV d = a - b) := by
  have ra := rep_of a (by omega)
  have rb := rep_of b (by omega)
  have fa := fl_of a (by omega)
  have fb := fl_of b (by omega)
  obtain ⟨r, hr, hr2⟩ := rep_sum ra rb (by omega)
  obtain ⟨q, hq, hq2⟩ := rep_sub ra rb (by omega)
  refine ⟨_, _, wrap64 r, wrap64 q, rfl, rfl, ⟨in_of a, to_of a (by omega)⟩, ?_, ?_, ?_, ⟨in_wrap _, rep_to hr2 (by omega)⟩, ⟨in_wrap _, rep_to hq2 (by omega)⟩⟩
  · rw [v20, fa, fb, rep_lt ra rb]
  · rw [v15, fa, fb, hr, fr_some]
  · rw [v16, fa, fb, hq, fr_some]

set_option maxHeartbeats 2000000 in
theorem walk (a b : Int) (_ : (Lit.int .i64 a).wf = true) (_ : (Lit.int .i64 b).wf = true) (w : World) :
    Calls Try.prog 9 #[.int .i64 a, .int .i64 b] w fun e w' => e = .returned (.bool true) ∧ Below w.heap.size w w' := by
  have hacc := Below.refl w.heap.size w
  by_cases hin : (-4503599627370496 ≤ a ∧ a ≤ 4503599627370496) ∧ (-4503599627370496 ≤ b ∧ b ≤ 4503599627370496)
  · obtain ⟨hia, hib⟩ := hin
    obtain ⟨x, y, s, d, h1, h2, ⟨h3, h4⟩, h5, h6, h7, ⟨h8, h9⟩, ⟨h10, h11⟩⟩ := whole a b hia hib
    have Ha := Lib.hid fun w => of_at a x h1 w
    have Hb := Lib.hid fun w => of_at b y h2 w
    have Hx := Lib.hid fun w => to_at x a h3 h4 w
    have Hs := Lib.hid fun w => to_at s (a + b) h8 h9 w
    have Hd := Lib.hid fun w => to_at d (a - b) h10 h11 w
    have H15 := Lib.hid h6
    have H16 := Lib.hid h7
    obtain ⟨a1, a2⟩ := hia
    obtain ⟨b1, b2⟩ := hib
    have t1 : decide (4503599627370496 < a) = false := decide_eq_false (by omega)
    have t2 : decide (a < -4503599627370496) = false := decide_eq_false (by omega)
    have t3 : decide (4503599627370496 < b) = false := decide_eq_false (by omega)
    have t4 : decide (b < -4503599627370496) = false := decide_eq_false (by omega)
    by_cases hlt : a < b
    · have h20 : fdo 20 x y = 1 := by rw [h5, decide_eq_true hlt]; rfl
      have H20 := Lib.hid h20
      have t5 : decide (a < b) = true := decide_eq_true hlt
      clear h1 h2 h3 h4 h5 h6 h7 h8 h9 h10 h11 h20 hlt
      go_enter Try.func9, Try.ntmps9
      go_wp2_with (first | (go_at_call 12; (with_reducible refine (awake_any _).mono ?_); rintro e w' ⟨rfl, hb⟩; replace hacc := grow hacc hb; clear hb) | (go_at_call 16; (with_reducible refine (Ha.out _).mono ?_); rintro e w' ⟨rfl, rfl⟩) | (go_at_call 16; (with_reducible refine (Hb.out _).mono ?_); rintro e w' ⟨rfl, rfl⟩) | (go_at_call 24; (with_reducible refine (do1_at 20 x y _ H20.out _).mono ?_); rintro e w' ⟨rfl, hb⟩; replace hacc := grow hacc hb; clear hb) | (go_at_call 24; (with_reducible refine (do1_at 15 x y _ H15.out _).mono ?_); rintro e w' ⟨rfl, hb⟩; replace hacc := grow hacc hb; clear hb) | (go_at_call 24; (with_reducible refine (do1_at 16 x y _ H16.out _).mono ?_); rintro e w' ⟨rfl, hb⟩; replace hacc := grow hacc hb; clear hb) | (go_at_call 18; (with_reducible refine (Hx.out _).mono ?_); rintro e w' ⟨rfl, rfl⟩) | (go_at_call 18; (with_reducible refine (Hs.out _).mono ?_); rintro e w' ⟨rfl, rfl⟩) | (go_at_call 18; (with_reducible refine (Hd.out _).mono ?_); rintro e w' ⟨rfl, rfl⟩))
      go_ret
      exact ⟨rfl, hacc⟩
    · have h20 : fdo 20 x y = 0 := by rw [h5, decide_eq_false hlt]; rfl
      have H20 := Lib.hid h20
      have t5 : decide (a < b) = false := decide_eq_false hlt
      clear h1 h2 h3 h4 h5 h6 h7 h8 h9 h10 h11 h20 hlt
      go_enter Try.func9, Try.ntmps9
      go_wp2_with (first | (go_at_call 12; (with_reducible refine (awake_any _).mono ?_); rintro e w' ⟨rfl, hb⟩; replace hacc := grow hacc hb; clear hb) | (go_at_call 16; (with_reducible refine (Ha.out _).mono ?_); rintro e w' ⟨rfl, rfl⟩) | (go_at_call 16; (with_reducible refine (Hb.out _).mono ?_); rintro e w' ⟨rfl, rfl⟩) | (go_at_call 24; (with_reducible refine (do1_at 20 x y _ H20.out _).mono ?_); rintro e w' ⟨rfl, hb⟩; replace hacc := grow hacc hb; clear hb) | (go_at_call 24; (with_reducible refine (do1_at 15 x y _ H15.out _).mono ?_); rintro e w' ⟨rfl, hb⟩; replace hacc := grow hacc hb; clear hb) | (go_at_call 24; (with_reducible refine (do1_at 16 x y _ H16.out _).mono ?_); rintro e w' ⟨rfl, hb⟩; replace hacc := grow hacc hb; clear hb) | (go_at_call 18; (with_reducible refine (Hx.out _).mono ?_); rintro e w' ⟨rfl, rfl⟩) | (go_at_call 18; (with_reducible refine (Hs.out _).mono ?_); rintro e w' ⟨rfl, rfl⟩) | (go_at_call 18; (with_reducible refine (Hd.out _).mono ?_); rintro e w' ⟨rfl, rfl⟩))
      go_ret
      exact ⟨rfl, hacc⟩
  · have hout : decide (4503599627370496 < a) = true ∨ (decide (4503599627370496 < a) = false ∧ (decide (a < -4503599627370496) = true ∨ (decide (a < -4503599627370496) = false ∧ (decide (4503599627370496 < b) = true ∨ (decide (4503599627370496 < b) = false ∧ decide (b < -4503599627370496) = true))))) := by
      simp only [decide_eq_true_eq, decide_eq_false_iff_not]; omega
    clear hin
    rcases hout with t1 | ⟨t1, t2 | ⟨t2, t3 | ⟨t3, t4⟩⟩⟩
    all_goals
      go_enter Try.func9, Try.ntmps9
      go_wp2_with (go_at_call 12; (with_reducible refine (awake_any _).mono ?_); rintro e w' ⟨rfl, hb⟩; replace hacc := grow hacc hb; clear hb)
      go_ret
      exact ⟨rfl, hacc⟩

set_option maxRecDepth 100000 in
theorem lifted (os : Os) (started : os.Started) (H : Type) (enc : TypeId × Value → H) :
    ReturnsInHanded {} Try.checked os 9 .any (Rows.floWholeSpec.pre6 enc Try.prog Try.f9 Rows.floWholeRow.domain false) (Rows.floWholeSpec.post enc Try.prog Try.f9 false true false false) := by
  refine returnsInHanded_of_change (C := Try.checked) (by kernel_rfl) started (by kernel_rfl) Try.func9
    (ChangeSpec.witness6 (enc := enc) (C := Try.checked) false ⟨#[], #[.int .i64 0, .int .i64 0], []⟩ 8 (by kernel_rfl) (by kernel_rfl) (by kernel_rfl) (by kernel_rfl)) ?_
  intro W base args ds gs before hval0 hW hcnd _
  have hval : ∀ (j : Nat) t v, Try.f9.params[j]? = some t → args[j]? = some v → Value.okWide Try.prog W .any base t v := hval0
  have hW' := hW
  obtain ⟨p, q, hA0, hV, rfl, hfz, hnd⟩ := hW
  have hA : DataW.TrodAll enc Try.prog W 0 (fun _ => true) true Try.f9.params.toList args.toList ds p := hA0
  rw [Try.params9] at hA hval
  obtain ⟨v0, vs0, d0, ds0, p0, q0, hargs, rfl, rfl, h0, r0⟩ := trodAll_cons hA
  obtain ⟨v1, vs1, d1, ds1, p1, q1, rfl, rfl, rfl, h1, r1⟩ := trodAll_cons r0
  obtain ⟨rfl, rfl, rfl⟩ := trodAll_nil r1
  obtain rfl : args = #[v0, v1] := by cases args; simp_all
  obtain ⟨rfl, rfl⟩ := trodVars_none hV
  obtain ⟨a0, rfl, rfl, rfl, w0⟩ := open_int Try.underlying2 (hval 0 2 v0 rfl rfl) h0
  obtain ⟨a1, rfl, rfl, rfl, w1⟩ := open_int Try.underlying2 (hval 1 2 v1 rfl rfl) h1
  clear hA0 hval0
  simp only [List.append_nil] at hW'
  refine (walk a0 a1 w0 w1 W).mono fun e W' ⟨he, hg⟩ => ?_
  subst he
  exact ⟨_, rfl, Shell.lawPost (by kernel_rfl) rfl (by kernel_rfl) rfl Try.underlying4 hW' rfl hg⟩

/-- The statement. -/
theorem proved : Rows.FloWholeSaid :=
  OpenClaim.holds_of_wide 9 Try.f9 rfl rfl rfl rfl rfl rfl rfl ⟨rfl, rfl, rfl, rfl, rfl⟩ rfl rfl rfl rfl rfl (by kernel_rfl) Try.func9 (by kernel_rfl)
    (of_decide_eq_true (by kernel_rfl)) (by unfold Func.isWrapper; first | (rw [if_pos (by decide +kernel)]; kernel_rfl) | (rw [if_neg (by decide +kernel)]; exact ⟨rfl, rfl⟩))
    (fun os started H enc _ => lifted os started H enc)
end Go.Proofs.Ytdgdkfkdhbnliaa.floWhole
