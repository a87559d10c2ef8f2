/-
  whatever number, and whatever word there is: the form, and the number, are the document's. No condition.
-/
import Derived.Test.YtkfpcaganhmkcaaDoorLaw05
import Derived.Test.YtkfpcaganhmkcaaDoorRef05O
import Derived.Test.YtkfpcaganhmkcaaDoorOfs
import Derived.Test.YtkfpcaganhmkcaaDoorShell
import Derived.ProofKit
import Derived.OpenShut
import Derived.SizedLaws
import Derived.Test.YtkfpcaganhmkcaaDoorLaidS
import Derived.Test.YtkfpcaganhmkcaaDoorLaid
import Derived.Test.YtkfpcaganhmkcaaDoorTie
import Derived.Test.YtkfpcaganhmkcaaDoorCards
import Derived.LaidMore
import Derived.Stop.Joined
import Derived.SevenTiedAt
namespace Go.Proofs.YtkfpcaganhmkcaaDoor.syntaxOps
open Go.ChangeShapes Go.WideShapes Go.ChangeAt Go.RowKit
open Api Mem Syn
theorem eqs (s : ByteArray) : (s.toList == s.toList) = true := by simp
theorem ops_at (s : ByteArray) (n : Int) (b : Bool) (h : (((opV s.data.toList).1 : Int), (opV s.data.toList).2) = (n, b)) (w : World) (hL : Rd5.LaidS w) :
    Calls Tryd.prog 12 #[.string s] w fun e w' => e = .returned (.tuple #[.int .i64 n, .bool b]) ∧ w = w' := by
  have h1 := congrArg Prod.fst h
  have h2 := congrArg Prod.snd h
  simp only at h1 h2
  rw [← h1, ← h2]
  exact Rd5.op_take s w hL
theorem opr_at (s : ByteArray) (n : Int) (b : Bool) (h : (((opV s.data.toList).1 : Int), (opV s.data.toList).2) = (n, b)) (w : World) (hL : R05.Laid w) :
    Calls Tryd.prog 13 #[.string s] w fun e w' => e = .returned (.tuple #[.int .i64 n, .bool b]) ∧ w = w' := by
  have h1 := congrArg Prod.fst h
  have h2 := congrArg Prod.snd h
  simp only at h1 h2
  rw [← h1, ← h2]
  exact R05.op_any s w hL
theorem ofr_at (op : Int) (z : ByteArray) (d m : Bool) (l k : Int) (b : Bool) (h : formV op = (⟨z.data.toList, d, m, l, k⟩, b)) (w : World) (hL : R05.Laid w) :
    Calls Tryd.prog 11 #[.int .i64 op] w fun e w' => e = .returned (.tuple #[.agg #[.string z, .bool d, .bool m, .int .i64 l, .int .i64 k], .bool b]) ∧ Below w.heap.size w w' := by
  have hz : (str z.data.toList : Value) = .string z := by show Value.string _ = _; rw [WordM.bytes_of]
  have := R05.of_any op w hL
  unfold R05.OfPost R05.fformC at this
  rw [h] at this
  simp only at this
  rw [hz] at this
  exact this
set_option maxRecDepth 100000 in
set_option maxHeartbeats 8000000 in
theorem walk (op : Int) (s : ByteArray) (_ : (Lit.int .i64 op).wf = true) (_ : s.size ≤ maxLen) (w : World) (hL0 : R05.Laid w) (hL : Rd5.LaidS w) :
    Calls Tryd.prog 3 #[.int .i64 op, .string s] w fun e w' => e = .returned (.bool true) ∧ Below w.heap.size w w' := by
  obtain ⟨⟨⟨fw, d, m, l, k⟩, b⟩, hf⟩ : ∃ r, formV op = r := ⟨_, rfl⟩
  obtain ⟨z, hz⟩ : ∃ z : ByteArray, z.data.toList = fw := ⟨⟨fw.toArray⟩, rfl⟩
  rw [← hz] at hf
  obtain ⟨⟨n, c⟩, hn⟩ : ∃ r, (((opV s.data.toList).1 : Int), (opV s.data.toList).2) = r := ⟨_, rfl⟩
  have Q1 := Lib.hid (Rd5.of_as op z d m l k b hf)
  have Q2 := Lib.hid (ofr_at op z d m l k b hf)
  have Q3 := Lib.hid (ops_at s n c hn)
  have Q4 := Lib.hid (opr_at s n c hn)
  have HL0 := Lib.hid hL0
  have HL := Lib.hid hL
  have ez := eqs z
  clear hf hz hn hL0 hL
  go_enter Tryd.func3, Tryd.ntmps3
  go_wp2_with fail
  refine (Q1.out _ HL.out).mono ?_; rintro e w1 ⟨rfl, hb1⟩
  have HB1 := Lib.hid hb1
  clear hb1
  go_wp2_with fail
  refine (Q2.out _ ((HL0.out.below HB1.out (Nat.le_refl _)).below ((Below.refl _ _).alloc (Nat.le_refl _) _) (Nat.le_refl _))).mono ?_; rintro e w2 ⟨rfl, hb2⟩
  have HF := Lib.hid ((Own.made w1 23 [.string z, .bool d, .bool m, .int .i64 l, .int .i64 k]).below hb2 (by simp))
  have HB2 := Lib.hid (HB1.out.trans ((Rd5.z_below hb2).mono HB1.out.size))
  have HS2 := Lib.hid (Rd5.z_size hb2)
  clear hb2
  go_wp2_with fail
  refine (Q3.out _ ((HL.out.below HB2.out (Nat.le_refl _)).below ((Below.refl _ _).alloc (Nat.le_refl _) _) (Nat.le_refl _))).mono ?_; rintro e w3 ⟨rfl, rfl⟩
  go_wp2_with fail
  refine (Q4.out _ ((HL0.out.below HB2.out (Nat.le_refl _)).below ((Below.refl _ _).alloc (Nat.le_refl _) _) (Nat.le_refl _))).mono ?_; rintro e w4 ⟨rfl, rfl⟩
  have f0 := Rd5.al_cell (x := .cells #[.string z, .bool d, .bool m, .int .i64 l, .int .i64 k] 26) ((HF.out.cell 0).trans rfl)
  have f1 := Rd5.al_cell (x := .cells #[.string z, .bool d, .bool m, .int .i64 l, .int .i64 k] 26) ((HF.out.cell 1).trans rfl)
  have f2 := Rd5.al_cell (x := .cells #[.string z, .bool d, .bool m, .int .i64 l, .int .i64 k] 26) ((HF.out.cell 2).trans rfl)
  have f3 := Rd5.al_cell (x := .cells #[.string z, .bool d, .bool m, .int .i64 l, .int .i64 k] 26) ((HF.out.cell 3).trans rfl)
  have f4 := Rd5.al_cell (x := .cells #[.string z, .bool d, .bool m, .int .i64 l, .int .i64 k] 26) ((HF.out.cell 4).trans rfl)
  have l1 := HS2.out
  have e1 : (d == d) = true := by simp
  have e2 : (m == m) = true := by simp
  have e3 : (l == l) = true := by simp
  have e4 : (k == k) = true := by simp
  have e5 : (b == b) = true := by simp
  have e6 : (n == n) = true := by simp
  have e7 : (c == c) = true := by simp
  rcases Bool.eq_false_or_eq_true s.toList.isEmpty with e8 | e8
  all_goals
    go_wp2_with fail
    refine (Rd5.awake_any _ ((HL.out.below HB2.out (Nat.le_refl _)).below ((Below.refl _ _).alloc (Nat.le_refl _) _) (Nat.le_refl _))).mono ?_; rintro e w5 ⟨rfl, hb5⟩
    have HB5 := Lib.hid (HB2.out.trans ((Rd5.z_below hb5).mono HB2.out.size))
    clear hb5
    go_wp2_with fail
    go_ret
    exact ⟨rfl, HB5.out⟩

abbrev laids {H : Type} : List (String × DataW H) := [("lateen/lateenref05.words", Rows.laid_lateen_lateenref05_words), ("lateen/syntax.words", Rows.laid_lateen_syntax_words)]
theorem door_met (os : Os) (args : Array Value) : laidMetH Tryd.prog laids ((World.doorLaid Tryd.prog 400 os).forCall (fun _ _ => 0) ⟨#[], args, []⟩).memory :=
  laidMetH_of_parts3 (fuel := 8) (laidMet_of_run' 8 (by kernel_rfl) (by kernel_rfl)) (by kernel_rfl) (by kernel_rfl)

set_option maxRecDepth 100000 in
theorem lifted (os : Os) (started : os.Started) (H : Type) (enc : TypeId × Value → H) :
    ReturnsInHanded {} Tryd.checked os 3 .any (fun w args => (Rows.syntaxOpsSpec.pre enc Tryd.prog Tryd.f3 [] false w args ∧ laidMetH Tryd.prog laids w) ∧ sizedMet enc Tryd.prog Tryd.f3 (OpenSpec.ofChange Rows.syntaxOpsSpec) false w args)
      (Rows.syntaxOpsSpec.post enc Tryd.prog Tryd.f3 false true false false) := by
  refine returnsInHanded_of_change_and (C := Tryd.checked) (X := fun w _ => laidMetH Tryd.prog laids w) (fun _ _ _ hh h => h.of_heap hh) (by kernel_rfl) started (by kernel_rfl) Tryd.func3
    (ChangeSpec.witness_shaped (enc := enc) (C := Tryd.checked) (os := os) (X := fun w _ => laidMetH Tryd.prog laids w) false (World.doorLaid Tryd.prog 400 os) #[.int .i64 0, .string ⟨#[]⟩] 8 rfl (World.shaped_of_RefB (by kernel_rfl) (by kernel_rfl)) (by kernel_rfl) (by kernel_rfl) (by kernel_rfl) (door_met os _)) ?_
  intro W base args ds gs before hval0 hW _ _ hL0 _
  have hval : ∀ (j : Nat) t v, Tryd.f3.params[j]? = some t → args[j]? = some v → Value.okWide Tryd.prog W .any base t v := hval0
  have hW' := hW
  obtain ⟨p, q, hA0, hV, rfl, hfz, hnd⟩ := hW
  have hA : DataW.TrodAll enc Tryd.prog W 0 (fun _ => true) true Tryd.f3.params.toList args.toList ds p := hA0
  rw [Tryd.params3] at hA hval
  obtain ⟨v0, vs0, d0, ds0, p0, q0, hargs, rfl, rfl, h0, r0⟩ := trodAll_cons hA
  obtain ⟨v1, vs1, d1, ds1, p1, q1, rfl, rfl, rfl, h1, r1⟩ := trodAll_cons r0
  obtain ⟨rfl, rfl, rfl⟩ := trodAll_nil r1
  obtain rfl : args = #[v0, v1] := by cases args; simp_all
  obtain ⟨rfl, rfl⟩ := trodVars_none hV
  obtain ⟨a0, rfl, rfl, rfl, w0⟩ := open_int Tryd.underlying3 (hval 0 3 v0 rfl rfl) h0
  obtain ⟨a1, rfl, rfl, rfl, w1⟩ := Go.ChangeMaps.open_string Tryd.underlying9 (hval 1 9 v1 rfl rfl) h1
  clear hA0 hval0
  simp only [List.append_nil] at hW'
  refine (walk a0 a1 w0 w1 W (R05.laid_words2 hL0) (Rd5.laid_swords2 hL0)).mono fun e W' ⟨he, hg⟩ => ?_
  subst he
  exact ⟨_, rfl, Shell.lawPost (by kernel_rfl) rfl (by kernel_rfl) rfl Tryd.underlying4 hW' rfl hg⟩

theorem row_holds : Rows.SyntaxOpsSaid :=
  OpenClaim.holds_of_wide 3 Tryd.f3 rfl rfl rfl rfl rfl rfl rfl ⟨rfl, rfl, rfl, rfl, rfl⟩ rfl rfl rfl rfl rfl (by kernel_rfl) Tryd.func3 (by kernel_rfl)
    (of_decide_eq_true (by kernel_rfl)) (by unfold Func.isWrapper; first | (rw [if_pos (by decide +kernel)]; kernel_rfl) | (rw [if_neg (by decide +kernel)]; exact ⟨rfl, rfl⟩))
    (fun os started H enc _ => lifted os started H enc)

/-- The statement. -/
theorem proved : Rows.SyntaxOpsCardSaid :=
  Claim7.holds_tied_plain_at .later [] [.data, .data] true Rows.syntaxOpsCard.stood.harness true
    row_holds (fun _ h => by cases h) (by kernel_rfl) (fun _ h => by cases h) syntaxOps_row_tie rfl ⟨rfl, rfl⟩ (by kernel_rfl) rfl
    (fun f fn hf hfn => by
      obtain rfl : f = 3 := Option.some.inj ((show Tryd.prog.funcNamed "lateen/lateenlaw05.SyntaxOps" = some 3 by kernel_rfl).symm.trans hf) |>.symm
      obtain rfl : fn = Tryd.f3 := (Option.some.inj (Tryd.func3.symm.trans hfn)).symm
      exact ⟨by kernel_rfl, fun j t ht => by
        rw [Tryd.params3] at ht
        have hm : t ∈ [3, 9] := by simpa using Array.mem_of_getElem? ht
        have hall : ([3, 9].all fun u => !Tryd.prog.wantsStandIn u) = true := by kernel_rfl
        exact (show Tryd.prog.wantsStandIn t = false by simpa using List.all_eq_true.1 hall t hm)⟩)
    (by kernel_rfl)
end Go.Proofs.YtkfpcaganhmkcaaDoor.syntaxOps
