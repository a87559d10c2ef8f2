/-
  Whatever argument there is: whether it is right, and its word, are told as the document tells them: the statement WordPuts. No condition.
-/
import Derived.Test.YtfihnnfjkhcgkaaLaw03
import Derived.Test.YtfihnnfjkhcgkaaRef03R
import Derived.Test.YtfihnnfjkhcgkaaShell
import Derived.ProofKit
import Derived.OpenShut
import Derived.Lib.SmallJoins
import Derived.Deep.RegionHeld3
namespace Go.Proofs.Ytfihnnfjkhcgkaa.wordPuts
open Go.ChangeShapes Go.WideShapes Go.ChangeAt Go.RowKit
open NumM FloM WordM Mem

/-- what a region that draws its order keeps of a boxed argument. -/
theorem kept_first {w : World} {t : TypeId} {v0 v1 v2 : Value} :
    (((w.alloc (.cells #[v0, v1, v2] t)).drew.cell? ⟨w.heap.size, 0, none⟩ = some v0 ∧ (w.alloc (.cells #[v0, v1, v2] t)).drew.cell? ⟨w.heap.size, 1, none⟩ = some v1 ∧ (w.alloc (.cells #[v0, v1, v2] t)).drew.cell? ⟨w.heap.size, 2, none⟩ = some v2) ∧
      Hid (Own (w.alloc (.cells #[v0, v1, v2] t)).drew w.heap.size t [v0, v1, v2]) ∧ Hid (Below w.heap.size w (w.alloc (.cells #[v0, v1, v2] t)).drew)) :=
  have o := (Own.made w t [v0, v1, v2]).drew
  ⟨(own3 o).1, Lib.hid o, Lib.hid (one_more _ _).drew⟩
theorem kept_next {w w1 w2 : World} {g : Nat} {t : TypeId} {v0 v1 v2 : Value} (hb : Below w1.heap.size w1 w2)
    (h : (w1.cell? ⟨g, 0, none⟩ = some v0 ∧ w1.cell? ⟨g, 1, none⟩ = some v1 ∧ w1.cell? ⟨g, 2, none⟩ = some v2) ∧ Hid (Own w1 g t [v0, v1, v2]) ∧ Hid (Below w.heap.size w w1)) :
    (w2.cell? ⟨g, 0, none⟩ = some v0 ∧ w2.cell? ⟨g, 1, none⟩ = some v1 ∧ w2.cell? ⟨g, 2, none⟩ = some v2) ∧ Hid (Own w2 g t [v0, v1, v2]) ∧ Hid (Below w.heap.size w w2) :=
  have o := h.2.1.out.below hb h.2.1.out.lt
  ⟨(own3 o).1, Lib.hid o, Lib.hid (grow3 h.2.2.out hb)⟩

set_option maxHeartbeats 4000000 in
theorem walk (k : Int) (s : ByteArray) (n : Int) (_ : (Lit.int .i64 k).wf = true) (hs : s.size ≤ maxLen) (hn : (Lit.int .i64 n).wf = true) (w : World) :
    Calls Try.prog 4 #[.agg #[.int .i64 k, .string s, .int .i64 n]] w fun e w' => e = .returned (.bool true) ∧ Below w.heap.size w w' := by
  obtain ⟨g, hg⟩ : ∃ g, rightV (k, s, n) = g := ⟨_, rfl⟩
  obtain ⟨l, hl⟩ : ∃ l, wput (k, s, n) = l := ⟨_, rfl⟩
  have q1 := wright_at k s n g hg
  have q2 := R03.right_at k s n g hs hg
  have q3 := wput_at k s n l (in_of_wf hn) hl
  have q4 := R03.put_at k s n l (in_of_wf hn) hs hl
  have Q1 := Lib.hid q1
  have Q2 := Lib.hid q2
  have Q3 := Lib.hid q3
  have Q4 := Lib.hid q4
  clear q1 q2 q3 q4 hg hl hs hn
  have e1 : (g == g) = true := by simp
  have e2 : (l == l) = true := by simp
  go_enter Try.func4, Try.ntmps4
  go_wp2_with fail
  go_region_held3 (fun w' => (w'.cell? ⟨w.heap.size, 0, none⟩ = some (.int .i64 k) ∧ w'.cell? ⟨w.heap.size, 1, none⟩ = some (.string s) ∧ w'.cell? ⟨w.heap.size, 2, none⟩ = some (.int .i64 n)) ∧ Hid (Own w' w.heap.size 25 [.int .i64 k, .string s, .int .i64 n]) ∧ Hid (Below w.heap.size w w'))
    (first | exact kept_first | exact kept_next hb (by assumption))
    (first | (go_at_call 8; (with_reducible refine (awake_any _).mono ?_); rintro e w' ⟨rfl, hb⟩) | (go_at_call 11; (with_reducible refine (Q1.out _).mono ?_); rintro e w' ⟨rfl, hb⟩) | (go_at_call 12; (with_reducible refine (Q2.out _).mono ?_); rintro e w' ⟨rfl, hb⟩) | (go_at_call 13; (with_reducible refine (Q3.out _).mono ?_); rintro e w' ⟨rfl, hb⟩) | (go_at_call 14; (with_reducible refine (Q4.out _).mono ?_); rintro e w' ⟨rfl, hb⟩))
  rename_i hHeld
  have B := hHeld.2.2
  clear hHeld
  go_wp2_with fail
  go_ret
  exact ⟨rfl, B.out⟩

set_option maxRecDepth 100000 in
theorem lifted (os : Os) (started : os.Started) (H : Type) (enc : TypeId × Value → H) :
    ReturnsInHanded {} Try.checked os 4 .any (Rows.wordPutsSpec.pre6 enc Try.prog Try.f4 Rows.wordPutsRow.domain false) (Rows.wordPutsSpec.post enc Try.prog Try.f4 false true false false) := by
  refine returnsInHanded_of_change (C := Try.checked) (by kernel_rfl) started (by kernel_rfl) Try.func4
    (ChangeSpec.witness6 (enc := enc) (C := Try.checked) false ⟨#[], #[.agg #[.int .i64 0, .string ⟨#[]⟩, .int .i64 0]], []⟩ 8 (by kernel_rfl) (by kernel_rfl) (by kernel_rfl) (by kernel_rfl)) ?_
  intro W base args ds gs before hval0 hW hcnd _
  have hval : ∀ (j : Nat) t v, Try.f4.params[j]? = some t → args[j]? = some v → Value.okWide Try.prog W .any base t v := hval0
  have hW' := hW
  obtain ⟨p, q, hA0, hV, rfl, hfz, hnd⟩ := hW
  have hA : DataW.TrodAll enc Try.prog W 0 (fun _ => true) true Try.f4.params.toList args.toList ds p := hA0
  rw [Try.params4] at hA hval
  obtain ⟨v0, vs0, d0, ds0, p0, q0, hargs, rfl, rfl, h0, r0⟩ := trodAll_cons hA
  obtain ⟨rfl, rfl, rfl⟩ := trodAll_nil r0
  obtain rfl : args = #[v0] := by cases args; simp_all
  obtain ⟨rfl, rfl⟩ := trodVars_none hV
  obtain ⟨c00, c01, c02, y00, y01, y02, m0, rfl, rfl, rfl, hy00, hy01, hy02⟩ := Go.Joins.open_agg3 Try.underlying25 (by kernel_rfl) (by kernel_rfl) (hval 0 25 v0 rfl rfl) h0
  obtain ⟨a00, e00, rfl, w00⟩ := DataW.trod_int Try.underlying3 hy00
  obtain ⟨a01, e01, rfl, w01⟩ := DataW.trod_string Try.underlying9 hy01
  obtain ⟨a02, e02, rfl, w02⟩ := DataW.trod_int Try.underlying2 hy02
  simp at e00 e01 e02
  subst e00 e01 e02
  clear hA0 hval0
  simp only [List.append_nil] at hW'
  refine (walk a00 a01 a02 w00 w01 w02 W).mono fun e W' ⟨he, hg⟩ => ?_
  subst he
  exact ⟨_, rfl, Shell.lawPost (by kernel_rfl) rfl (by kernel_rfl) rfl Try.underlying4 hW' rfl hg⟩

/-- The statement. -/
theorem proved : Rows.WordPutsSaid :=
  OpenClaim.holds_of_wide 4 Try.f4 rfl rfl rfl rfl rfl rfl rfl ⟨rfl, rfl, rfl, rfl, rfl⟩ rfl rfl rfl rfl rfl (by kernel_rfl) Try.func4 (by kernel_rfl)
    (of_decide_eq_true (by kernel_rfl)) (by unfold Func.isWrapper; first | (rw [if_pos (by decide +kernel)]; kernel_rfl) | (rw [if_neg (by decide +kernel)]; exact ⟨rfl, rfl⟩))
    (fun os started H enc _ => lifted os started H enc)
end Go.Proofs.Ytfihnnfjkhcgkaa.wordPuts
