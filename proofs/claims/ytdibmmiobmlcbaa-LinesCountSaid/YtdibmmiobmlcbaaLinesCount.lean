/-
  Numbers rise, from 1 on, and are no more than there are lines; each line has words, which have bytes: the statement LinesCount. No condition.
-/
import Derived.Test.YtdibmmiobmlcbaaLaw04
import Derived.Test.YtdibmmiobmlcbaaLinesLawMath
import Derived.Test.YtdibmmiobmlcbaaShell
import Derived.ProofKit
import Derived.OpenShut
import Derived.SizedLaws
namespace Go.Proofs.Ytdibmmiobmlcbaa.linesCount
open Go.ChangeShapes Go.WideShapes Go.ChangeAt Go.RowKit
open LinesM Mem
theorem feeds_snoc (s : ByteArray) (k : Nat) (h : k < s.size) : feeds (s.data.toList.take (k + 1)) = feeds (s.data.toList.take k) + if s[k] = 10 then 1 else 0 := by
  have e : s.data.toList.take (k + 1) = s.data.toList.take k ++ [s[k]] := by rw [List.take_succ_eq_append_getElem (by simpa using h)]; rfl
  rw [e]
  unfold feeds
  rw [List.filter_append]
  by_cases hc : s[k] = 10 <;> simp [hc]
theorem feed_yes {c : UInt8} (h : ((c.toNat : Int) == 10) = true) : c = 10 := by
  have : c.toNat = 10 := by simp only [beq_iff_eq] at h; omega
  rw [← UInt8.toNat_inj]; exact this
theorem feed_no {c : UInt8} (h : ((c.toNat : Int) == 10) = false) : c ≠ 10 := by intro e; subst e; simp at h

/-- the lines in memory, and in the list. -/
theorem line_at {xs : List ML} {out : List Ln} {k : Nat} (h : xs.map line = lns out) (hk : k < xs.length) : ∃ (N : Nat) (u : Value) (ws : List Wd), xs[k]? = some ((N : Int), u, ws) ∧ out.drop k = (N, ws) :: out.drop (k + 1) := by
  have hl : xs.length = out.length := by have := congrArg List.length h; simpa [lns] using this
  have h1 : (xs.map line)[k]? = some (line xs[k]) := by rw [List.getElem?_map, List.getElem?_eq_getElem hk]; rfl
  rw [h] at h1
  have h2 : (lns out)[k]? = some (((out[k]'(by omega)).1 : Int), (out[k]'(by omega)).2) := by unfold lns; rw [List.getElem?_map, List.getElem?_eq_getElem (by omega)]; rfl
  rw [h2] at h1
  have h3 := Option.some.inj h1
  refine ⟨(out[k]'(by omega)).1, xs[k].2.1, (out[k]'(by omega)).2, ?_, ?_⟩
  · rw [List.getElem?_eq_getElem hk]
    have a := congrArg Prod.fst h3
    have b := congrArg Prod.snd h3
    simp only [line] at a b
    rw [a, b]
  · rw [List.drop_eq_getElem_cons (by omega)]

set_option maxRecDepth 100000 in
set_option maxHeartbeats 8000000 in
theorem walk_no (s : ByteArray) (hs : s.size ≤ 140737488351232) (out : List Ln) (n y : Nat) (hr : splitV s.data.toList = (out, n, y)) (hy : y ≠ 0) (w : World) :
    Calls Try.prog 6 #[.string s] w fun e w' => e = .returned (.bool true) ∧ Below w.heap.size w w' := by
  obtain ⟨h1, h2⟩ := (split_props hr).2 hy
  subst h1
  have Q1 := Lib.hid fun w => split_at s [] n y n y rfl rfl hr (by unfold maxLen; omega) w
  have H2 := Lib.hid h2
  have e1 : ((y : Int) != 0) = true := by simp; omega
  have e2 : ((y : Int) == 0) = false := by simp; omega
  clear hr h2 hy
  go_enter Try.func6, Try.ntmps6
  go_wp2_with fail
  refine (Q1.out _).mono ?_; rintro e w1 ⟨v1, xs, rfl, hx, hn, ho1, hb1⟩
  have hx0 : xs = [] := by have := congrArg List.length hx; simpa [lns] using this
  subst hx0
  obtain ⟨A1, c1, rfl⟩ := own_form ho1.1
  have HB1 := Lib.hid hb1
  clear hx ho1 hb1
  go_wp2_with fail
  go_loop [6, 7] (fun m i => ∃ k : Nat, k ≤ s.size ∧ i = .int .i64 k ∧ ∃ M : Nat, m = .int .i64 M ∧ M ≤ k + 1 ∧ Hid (M = 1 + feeds (s.data.toList.take k))) (fun _ i => s.size - (intOf i).toNat)
  case atStart => exact ⟨0, Nat.zero_le _, rfl, 1, rfl, by omega, Lib.hid rfl⟩
  case round =>
  obtain ⟨k, hk, rfl, M, rfl, hM, HM⟩ := hrel
  by_cases hlt : k < s.size
  · have hf := feeds_snoc s k hlt
    have HF := Lib.hid hf
    clear hf
    rcases Bool.eq_false_or_eq_true ((s[k].toNat : Int) == 10) with hc | hc
    · go_wp2
      go_round
      case rel => exact ⟨k + 1, by omega, by go_num, M + 1, by go_num, by omega, Lib.hid (by rw [HF.out, if_pos (feed_yes hc), HM.out]; omega)⟩
      case measure => simp [intOf]; omega
    · go_wp2
      go_round
      case rel => exact ⟨k + 1, by omega, by go_num, M, rfl, by omega, Lib.hid (by rw [HF.out, if_neg (feed_no hc), HM.out, Nat.add_zero])⟩
      case measure => simp [intOf]; omega
  obtain rfl : k = s.size := by omega
  have HM2 : Hid (M = 1 + feeds s.data.toList) := Lib.hid (by have := HM.out; rw [List.take_of_length_le (by rw [size_list]; exact Nat.le_refl _)] at this; exact this)
  clear HM hlt hk
  have g1 : decide (n ≤ M) = true := decide_eq_true (by have := H2.out; rw [HM2.out]; exact this)
  have g2 : decide ((n : Int) ≤ (M : Int)) = true := decide_eq_true (by have := H2.out; rw [← HM2.out] at this; omega)
  have g3 : decide ((0 : Int) ≤ (n : Int)) = true := decide_eq_true (by omega)
  go_wp2_with fail
  refine (awake_any _).mono ?_; rintro e w2 ⟨rfl, hb2⟩
  have HB2 := Lib.hid (HB1.out.trans (hb2.mono HB1.out.size))
  clear hb2
  go_wp2_with fail
  refine (awake_any _).mono ?_; rintro e w3 ⟨rfl, hb3⟩
  have HB3 := Lib.hid (HB2.out.trans (hb3.mono HB2.out.size))
  clear hb3
  go_wp2_with fail
  go_ret
  exact ⟨rfl, HB3.out⟩

set_option maxRecDepth 100000 in
set_option maxHeartbeats 8000000 in
theorem walk_yes (s : ByteArray) (hs : s.size ≤ 140737488351232) (out : List Ln) (n : Nat) (hr : splitV s.data.toList = (out, n, 0)) (w : World) :
    Calls Try.prog 6 #[.string s] w fun e w' => e = .returned (.bool true) ∧ Below w.heap.size w w' := by
  obtain ⟨h1, h2⟩ := (split_props hr).1 rfl
  subst h1
  have Q1 := Lib.hid fun w => split_at s out 0 0 0 0 rfl rfl hr (by unfold maxLen; omega) w
  have H2 := Lib.hid h2
  clear hr h2
  go_enter Try.func6, Try.ntmps6
  go_wp2_with fail
  refine (Q1.out _).mono ?_; rintro e w1 ⟨v1, xs, rfl, hx, hn, ho1, hb1⟩
  have HX := Lib.hid hx
  have HO1 := Lib.hid ho1
  have HB1 := Lib.hid hb1
  clear hx ho1 hb1
  go_wp2_with fail
  go_loop [6, 7] (fun m i => ∃ k : Nat, k ≤ s.size ∧ i = .int .i64 k ∧ ∃ M : Nat, m = .int .i64 M ∧ M ≤ k + 1 ∧ Hid (M = 1 + feeds (s.data.toList.take k))) (fun _ i => s.size - (intOf i).toNat)
  case atStart => exact ⟨0, Nat.zero_le _, rfl, 1, rfl, by omega, Lib.hid rfl⟩
  case round =>
  obtain ⟨k, hk, rfl, M, rfl, hM, HM⟩ := hrel
  by_cases hlt : k < s.size
  · have hf := feeds_snoc s k hlt
    have HF := Lib.hid hf
    clear hf
    rcases Bool.eq_false_or_eq_true ((s[k].toNat : Int) == 10) with hc | hc
    · go_wp2
      go_round
      case rel => exact ⟨k + 1, by omega, by go_num, M + 1, by go_num, by omega, Lib.hid (by rw [HF.out, if_pos (feed_yes hc), HM.out]; omega)⟩
      case measure => simp [intOf]; omega
    · go_wp2
      go_round
      case rel => exact ⟨k + 1, by omega, by go_num, M, rfl, by omega, Lib.hid (by rw [HF.out, if_neg (feed_no hc), HM.out, Nat.add_zero])⟩
      case measure => simp [intOf]; omega
  obtain rfl : k = s.size := by omega
  have HM2 : Hid (M = 1 + feeds s.data.toList) := Lib.hid (by have := HM.out; rw [List.take_of_length_le (by rw [size_list]; exact Nat.le_refl _)] at this; exact this)
  clear HM hlt hk
  go_wp2_with fail
  refine (awake_any _).mono ?_; rintro e w2 ⟨rfl, hb2⟩
  have HL := Lib.hid ((HO1.out.below hb2).lins (by omega))
  have HB2 := Lib.hid (HB1.out.trans (hb2.mono HB1.out.size))
  clear hb2 HO1
  obtain ⟨A, len, cap, b, off, rfl, hln, hm, ha, hc⟩ := HL.out
  have HC := Lib.hid hc
  have HA := Lib.hid ha
  have HN := Lib.hid hln
  clear hc ha hln HL
  go_wp2_with fail
  go_loop [8, 9, 10] (fun a i _ => ∃ (k last : Nat), k ≤ len ∧ i = .int .i64 k ∧ a = .int .i64 last ∧ Hid (Rise (last + 1) M (out.drop k))) (fun _ i _ => len - (intOf i).toNat)
  case atStart => exact ⟨0, 0, Nat.zero_le _, rfl, rfl, Lib.hid (by rw [List.drop_zero, HM2.out]; exact H2.out)⟩
  case round =>
  obtain ⟨k, last, hk, rfl, rfl, HR⟩ := hrel
  by_cases hlt : k < len
  · obtain ⟨N, u, ws, hx, hd⟩ := line_at HX.out (k := k) (by have := HN.out; omega)
    have hr := HR.out
    rw [hd] at hr
    obtain ⟨r1, r2, r3, r4, r5⟩ := hr
    obtain ⟨rfl, _, hb⟩ := HA.out (by omega)
    obtain ⟨c1, c2, c3⟩ := HC.out k _ hx
    simp only at c1 c2 c3 r1 r2 r3 r4 r5
    obtain ⟨A1, p1, rfl⟩ := c3.form
    obtain ⟨s1, o1, _, hm1, a1, j1⟩ := c3.get
    have A1h := Lib.hid a1
    have J1h := Lib.hid j1
    have R4 := Lib.hid r4
    have R5 := Lib.hid r5
    have hw1 : 0 < ws.length := List.length_pos_iff.2 r3
    have g1 : decide (N ≤ last) = false := decide_eq_false (by omega)
    have g2 : decide ((N : Int) ≤ (last : Int)) = false := decide_eq_false (by omega)
    have g3 : decide (M < N) = false := decide_eq_false (by omega)
    have g4 : decide ((M : Int) < (N : Int)) = false := decide_eq_false (by omega)
    have g5 : ((ws.length : Int) == 0) = false := by simp; omega
    have g6 : (ws.length == 0) = false := by simp; omega
    clear hx hd r1 r2 r3 r4 r5 c3 a1 j1 HR
    go_wp2
    go_loop [10] (fun j => ∃ q : Nat, q ≤ ws.length ∧ j = .int .i64 q) (fun j => ws.length - (intOf j).toNat)
    case atStart => exact ⟨0, Nat.zero_le _, rfl⟩
    case round =>
    obtain ⟨q, hq, rfl⟩ := hrel
    by_cases hqt : q < ws.length
    · obtain ⟨x, hx⟩ : ∃ x, ws[q]? = some x := ⟨_, List.getElem?_eq_getElem hqt⟩
      have hne := (R4.out x (List.mem_of_getElem? hx)).1
      obtain ⟨rfl, _, hs1⟩ := A1h.out (by omega)
      have d7 := J1h.out q x hx
      obtain ⟨z, hz⟩ : ∃ z : ByteArray, z = ⟨x.toArray⟩ := ⟨_, rfl⟩
      have hzl : z.toList = x := by rw [ByteArray.toList_eq, hz]
      have f1 : z.toList.isEmpty = false := by rw [hzl]; cases x with | nil => exact absurd rfl hne | cons a x => rfl
      have f2 : (z.toList == []) = false := by rw [hzl]; cases x with | nil => exact absurd rfl hne | cons a x => rfl
      rw [← hz] at d7
      clear hx hne hz hzl
      go_wp2
      go_round
      case rel => exact ⟨q + 1, by omega, by go_num⟩
      case measure => simp [intOf]; omega
    · go_wp2
      go_round
      case rel => exact ⟨k + 1, N, by omega, by go_num, rfl, R5⟩
      case measure => simp [intOf]; omega
  · go_wp2
    go_ret
    exact ⟨rfl, HB2.out⟩

theorem walk (s : ByteArray) (hs : s.size ≤ 140737488351232) (w : World) :
    Calls Try.prog 6 #[.string s] w fun e w' => e = .returned (.bool true) ∧ Below w.heap.size w w' := by
  obtain ⟨⟨out, n, y⟩, hr⟩ : ∃ r, splitV s.data.toList = r := ⟨_, rfl⟩
  by_cases hy : y = 0
  · subst hy; exact walk_yes s hs out n hr w
  · exact walk_no s hs out n y hr hy w

set_option maxRecDepth 100000 in
theorem lifted (os : Os) (started : os.Started) (H : Type) (enc : TypeId × Value → H) :
    ReturnsInHanded {} Try.checked os 6 .any (Rows.linesCountSpec.pre6 enc Try.prog Try.f6 Rows.linesCountRow.domain false) (Rows.linesCountSpec.post enc Try.prog Try.f6 false true false false) := by
  refine returnsInHanded_of_change_sized (C := Try.checked) (by kernel_rfl) started (by kernel_rfl) Try.func6
    (ChangeSpec.witness6 (enc := enc) (C := Try.checked) false ⟨#[], #[.string ⟨#[]⟩], []⟩ 8 (by kernel_rfl) (by kernel_rfl) (by kernel_rfl) (by kernel_rfl)) ?_
  intro W base args ds gs before hval0 hW hcnd hsz0 _
  have hval : ∀ (j : Nat) t v, Try.f6.params[j]? = some t → args[j]? = some v → Value.okWide Try.prog W .any base t v := hval0
  have hW' := hW
  obtain ⟨p, q, hA0, hV, rfl, hfz, hnd⟩ := hW
  have hsz : (DataW.weightsEach Try.prog (Try.f6.params.toList ++ Rows.linesCountSpec.plain.varTypes Try.prog) (ds ++ gs)).all (· ≤ reachBytes) = true := hsz0
  have hA : DataW.TrodAll enc Try.prog W 0 (fun _ => true) true Try.f6.params.toList args.toList ds p := hA0
  rw [Try.params6] at hA hval hsz
  obtain ⟨v0, vs0, d0, ds0, p0, q0, hargs, rfl, rfl, h0, r0⟩ := trodAll_cons hA
  obtain ⟨rfl, rfl, rfl⟩ := trodAll_nil r0
  obtain rfl : args = #[v0] := by cases args; simp_all
  obtain ⟨rfl, rfl⟩ := trodVars_none hV
  obtain ⟨a0, rfl, rfl, rfl, _⟩ := Go.ChangeMaps.open_string Try.underlying9 (hval 0 9 v0 rfl rfl) h0
  have z0 : a0.size ≤ 140737488351232 := Shell.reach_string hsz (j := 0) (t := 9) rfl rfl
  clear hA0 hval0
  simp only [List.append_nil] at hW'
  refine (walk a0 z0 W).mono fun e W' ⟨he, hg⟩ => ?_
  subst he
  exact ⟨_, rfl, Shell.lawPost (by kernel_rfl) rfl (by kernel_rfl) rfl Try.underlying4 hW' rfl hg⟩

/-- The statement. -/
theorem proved : Rows.LinesCountSaid :=
  OpenClaim.holds_of_wide 6 Try.f6 rfl rfl rfl rfl rfl rfl rfl ⟨rfl, rfl, rfl, rfl, rfl⟩ rfl rfl rfl rfl rfl (by kernel_rfl) Try.func6 (by kernel_rfl)
    (of_decide_eq_true (by kernel_rfl)) (by unfold Func.isWrapper; first | (rw [if_pos (by decide +kernel)]; kernel_rfl) | (rw [if_neg (by decide +kernel)]; exact ⟨rfl, rfl⟩))
    (fun os started H enc _ => lifted os started H enc)
end Go.Proofs.Ytdibmmiobmlcbaa.linesCount
