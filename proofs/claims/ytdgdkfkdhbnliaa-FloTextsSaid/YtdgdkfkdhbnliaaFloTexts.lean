/-
  Whatever float, and whatever text there is: its text, and the float that it is, are the document's; there and back: the statement FloTexts. No condition.
-/
import Derived.Test.YtdgdkfkdhbnliaaLaw02
import Derived.Test.YtdgdkfkdhbnliaaRef02T
import Derived.Test.YtdgdkfkdhbnliaaShell
import Derived.ProofKit
import Derived.OpenShut
namespace Go.Proofs.Ytdgdkfkdhbnliaa.floTexts
open Go.ChangeShapes Go.WideShapes Go.ChangeAt Go.RowKit
open NumM FloM Mem

theorem grow {w x y : World} (h : Below w.heap.size w x) (k : Below x.heap.size x y) : Below w.heap.size w y := h.trans (k.mono h.size)

set_option maxHeartbeats 2000000 in
theorem walk (n : Int) (s : ByteArray) (hn0 : (Lit.int .i64 n).wf = true) (_ : s.size ≤ 9223372036854775807) (w : World) :
    Calls Try.prog 5 #[.int .i64 n, .string s] w fun e w' => e = .returned (.bool true) ∧ Below w.heap.size w w' := by
  have hn := in_of_wf hn0
  have gd := fun w => fget_any ⟨(putV n).toArray⟩ w
  rw [show (⟨(putV n).toArray⟩ : ByteArray).data.toList = putV n from rfl, get_put n hn] at gd
  have gs := fun w => fget_any s w
  have rs := fun w => R02.get_any s w
  rw [← get_same] at rs
  obtain ⟨g, hg⟩ : ∃ g, fgetV s.data.toList = g := ⟨_, rfl⟩
  have hback := fun h => get_back (l := s.data.toList) h
  rw [hg] at gs rs hback
  obtain ⟨k, b⟩ := g
  have Gd := Lib.hid gd
  have Gs := Lib.hid gs
  have Rs := Lib.hid rs
  clear gd gs rs hg hn hn0
  have hacc := Below.refl w.heap.size w
  cases b
  · clear hback
    go_enter Try.func5, Try.ntmps5
    go_wp2_with (first | (go_at_call 20; (with_reducible refine (fput_any n _).mono ?_); rintro e w' ⟨rfl, hb⟩; replace hacc := grow hacc hb; clear hb) | (go_at_call 21; (with_reducible refine (Gd.out _).mono ?_); rintro e w' ⟨rfl, hb⟩; replace hacc := grow hacc hb; clear hb) | (go_at_call 21; (with_reducible refine (Gs.out _).mono ?_); rintro e w' ⟨rfl, hb⟩; replace hacc := grow hacc hb; clear hb) | (go_at_call 22; (with_reducible refine (Rs.out _).mono ?_); rintro e w' ⟨rfl, hb⟩; replace hacc := grow hacc hb; clear hb) | (go_at_call 12; (with_reducible refine (awake_any _).mono ?_); rintro e w' ⟨rfl, hb⟩; replace hacc := grow hacc hb; clear hb) | (go_at_call 23; (with_reducible refine (R02.put_any n _).mono ?_); rintro e w' ⟨rfl, hb⟩; replace hacc := grow hacc hb; clear hb) | (go_at_call 15; (with_reducible refine (R02.plain_any n _).mono ?_); rintro e w' ⟨rfl, rfl⟩))
    go_ret
    exact ⟨rfl, hacc⟩
  · have e4 : (putV k == s.toList) = true := by rw [ByteArray.toList_eq]; simpa using hback rfl
    clear hback
    go_enter Try.func5, Try.ntmps5
    go_wp2_with (first | (go_at_call 20; (with_reducible refine (fput_any n _).mono ?_); rintro e w' ⟨rfl, hb⟩; replace hacc := grow hacc hb; clear hb) | (go_at_call 21; (with_reducible refine (Gd.out _).mono ?_); rintro e w' ⟨rfl, hb⟩; replace hacc := grow hacc hb; clear hb) | (go_at_call 21; (with_reducible refine (Gs.out _).mono ?_); rintro e w' ⟨rfl, hb⟩; replace hacc := grow hacc hb; clear hb) | (go_at_call 22; (with_reducible refine (Rs.out _).mono ?_); rintro e w' ⟨rfl, hb⟩; replace hacc := grow hacc hb; clear hb) | (go_at_call 12; (with_reducible refine (awake_any _).mono ?_); rintro e w' ⟨rfl, hb⟩; replace hacc := grow hacc hb; clear hb) | (go_at_call 23; (with_reducible refine (R02.put_any n _).mono ?_); rintro e w' ⟨rfl, hb⟩; replace hacc := grow hacc hb; clear hb) | (go_at_call 15; (with_reducible refine (R02.plain_any n _).mono ?_); rintro e w' ⟨rfl, rfl⟩) | (go_at_call 20; (with_reducible refine (fput_any k _).mono ?_); rintro e w' ⟨rfl, hb⟩; replace hacc := grow hacc hb; clear hb))
    go_ret
    exact ⟨rfl, hacc⟩

set_option maxRecDepth 100000 in
theorem lifted (os : Os) (started : os.Started) (H : Type) (enc : TypeId × Value → H) :
    ReturnsInHanded {} Try.checked os 5 .any (Rows.floTextsSpec.pre6 enc Try.prog Try.f5 Rows.floTextsRow.domain false) (Rows.floTextsSpec.post enc Try.prog Try.f5 false true false false) := by
  refine returnsInHanded_of_change (C := Try.checked) (by kernel_rfl) started (by kernel_rfl) Try.func5
    (ChangeSpec.witness6 (enc := enc) (C := Try.checked) false ⟨#[], #[.int .i64 0, .string ⟨#[]⟩], []⟩ 8 (by kernel_rfl) (by kernel_rfl) (by kernel_rfl) (by kernel_rfl)) ?_
  intro W base args ds gs before hval0 hW hcnd _
  have hval : ∀ (j : Nat) t v, Try.f5.params[j]? = some t → args[j]? = some v → Value.okWide Try.prog W .any base t v := hval0
  have hW' := hW
  obtain ⟨p, q, hA0, hV, rfl, hfz, hnd⟩ := hW
  have hA : DataW.TrodAll enc Try.prog W 0 (fun _ => true) true Try.f5.params.toList args.toList ds p := hA0
  rw [Try.params5] at hA hval
  obtain ⟨v0, vs0, d0, ds0, p0, q0, hargs, rfl, rfl, h0, r0⟩ := trodAll_cons hA
  obtain ⟨v1, vs1, d1, ds1, p1, q1, rfl, rfl, rfl, h1, r1⟩ := trodAll_cons r0
  obtain ⟨rfl, rfl, rfl⟩ := trodAll_nil r1
  obtain rfl : args = #[v0, v1] := by cases args; simp_all
  obtain ⟨rfl, rfl⟩ := trodVars_none hV
  obtain ⟨a0, rfl, rfl, rfl, w0⟩ := open_int Try.underlying2 (hval 0 2 v0 rfl rfl) h0
  obtain ⟨a1, rfl, rfl, rfl, w1⟩ := Go.ChangeMaps.open_string Try.underlying9 (hval 1 9 v1 rfl rfl) h1
  clear hA0 hval0
  simp only [List.append_nil] at hW'
  refine (walk a0 a1 w0 w1 W).mono fun e W' ⟨he, hg⟩ => ?_
  subst he
  exact ⟨_, rfl, Shell.lawPost (by kernel_rfl) rfl (by kernel_rfl) rfl Try.underlying4 hW' rfl hg⟩

/-- The statement. -/
theorem proved : Rows.FloTextsSaid :=
  OpenClaim.holds_of_wide 5 Try.f5 rfl rfl rfl rfl rfl rfl rfl ⟨rfl, rfl, rfl, rfl, rfl⟩ rfl rfl rfl rfl rfl (by kernel_rfl) Try.func5 (by kernel_rfl)
    (of_decide_eq_true (by kernel_rfl)) (by unfold Func.isWrapper; first | (rw [if_pos (by decide +kernel)]; kernel_rfl) | (rw [if_neg (by decide +kernel)]; exact ⟨rfl, rfl⟩))
    (fun os started H enc _ => lifted os started H enc)
end Go.Proofs.Ytdgdkfkdhbnliaa.floTexts
