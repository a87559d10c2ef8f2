/-
  Layer 11: package loops' view: dominates and those.
-/
import Derived.Test.YtiohngbmddfgfaaLpCome
import Derived.Test.YtiohngbmddfgfaaLpFill
namespace Go.Proofs.Ytiohngbmddfgfaa.Lp11
open Go.RowKit Api Mem Fl9 Dm10

theorem up11 (w : World) (o : Obj) : Below w.heap.size w (w.alloc o) := (Below.refl _ _).alloc (Nat.le_refl _) _
set_option maxRecDepth 100000 in
set_option maxHeartbeats 8000000 in
theorem sees_any (lo hi : Nat) (w : World) (vf vl : Value) (fi la : List Int) (hf : Ints lo hi w vf fi) (hl : Ints lo hi w vl la) (hh : hi ≤ w.heap.size) (a b : Nat) (ha : a < fi.length) (hb : b < fi.length) (ha2 : a < la.length) :
    Calls Try.prog 25 #[.agg #[vf, vl], i64 (a : Int), i64 (b : Int)] w fun e w' => e = .returned (.bool (seesB fi la a (b : Int))) ∧ Below w.heap.size w w' := by
  obtain ⟨A1, k1, rfl⟩ := Row.form hf
  obtain ⟨A2, k2, rfl⟩ := Row.form hl
  obtain ⟨b1, o1, rfl⟩ := addr_of9 hf (by omega)
  obtain ⟨b2, o2, rfl⟩ := addr_of9 hl (by omega)
  obtain ⟨x, hx⟩ : ∃ x, fi[a]? = some x := ⟨_, List.getElem?_eq_getElem ha⟩
  obtain ⟨y, hy⟩ : ∃ y, fi[b]? = some y := ⟨_, List.getElem?_eq_getElem hb⟩
  obtain ⟨z, hz⟩ : ∃ z, la[a]? = some z := ⟨_, List.getElem?_eq_getElem ha2⟩
  obtain ⟨W, hW⟩ : ∃ W, w.alloc (.cells #[Value.slice (some ⟨b1, o1, none⟩) fi.length k1, Value.slice (some ⟨b2, o2, none⟩) la.length k2] 40) = W := ⟨_, rfl⟩
  have hb9 : Below w.heap.size w W := by rw [← hW]; exact up11 w _
  have hob : Mem.Own W w.heap.size 40 [Value.slice (some ⟨b1, o1, none⟩) fi.length k1, Value.slice (some ⟨b2, o2, none⟩) la.length k2] := by rw [← hW]; exact Own.made w _ _
  obtain ⟨c1, _, rfl, n1⟩ := cell_of hf hx (hb9.mono hh)
  obtain ⟨c2, _, rfl, n2⟩ := cell_of hf hy (hb9.mono hh)
  obtain ⟨c3, _, rfl, n3⟩ := cell_of hl hz (hb9.mono hh)
  have m1 := n1 _ rfl
  have m2 := n2 _ rfl
  have m3 := n3 _ rfl
  have m4 := hob.cell 0
  have m5 := hob.cell 1
  simp only [List.getElem?_cons_zero, List.getElem?_cons_succ] at m4 m5
  have HS := Lib.hid (show seesB fi la a (b : Int) = (decide (x ≤ y) && decide (y ≤ z)) by
    unfold seesB
    rw [Int.toNat_natCast, List.getD_eq_getElem?_getD, List.getD_eq_getElem?_getD, List.getD_eq_getElem?_getD, hx, hy, hz]
    rfl)
  have HW := Lib.hid hW
  have HB9 := Lib.hid hb9
  clear n1 n2 n3 hx hy hz hf hl hW hb9 hob
  by_cases h1 : x ≤ y
  · have e1 : decide (x ≤ y) = true := decide_eq_true h1
    go_enter Try.func25, Try.ntmps25
    go_wp2_with fail
    rw [HW.out]
    go_region
    all_goals go_wp2_with fail
    all_goals go_ret
    all_goals exact ⟨by rw [HS.out, e1]; simp, by first | exact HB9.out | exact HB9.out.drew⟩
  · have e1 : decide (x ≤ y) = false := decide_eq_false h1
    go_enter Try.func25, Try.ntmps25
    go_wp2_with fail
    rw [HW.out]
    go_region
    all_goals go_wp2_with fail
    all_goals go_ret
    all_goals exact ⟨by rw [HS.out, e1]; simp, by first | exact HB9.out | exact HB9.out.drew⟩
set_option maxRecDepth 100000 in
set_option maxHeartbeats 8000000 in
theorem those_any (lo hi : Nat) (w : World) (vf vl v : Value) (fi la l : List Int) (hf : Ints lo hi w vf fi) (hl : Ints lo hi w vl la) (hv : Ints lo hi w v l) (hh : hi ≤ w.heap.size) (a : Nat) (ha : a < fi.length) (ha2 : a < la.length) (hp : ∀ x ∈ l, ∃ q : Nat, x = (q : Int) ∧ q < fi.length) (hn : l.length ≤ 1000) :
    Calls Try.prog 19 #[.agg #[vf, vl], i64 (a : Int), v] w fun e w' => ∃ u, e = .returned u ∧ w'.ownsRow w.heap.size 3 1 u (l.filter (seesB fi la a)).length (iC (l.filter (seesB fi la a))) ∧ Below w.heap.size w w' := by
  obtain ⟨A1, k1, rfl⟩ := Row.form hv
  obtain ⟨ii, hi1, hi2, hi3, hi4⟩ := info_in9
  have HII : Hid (Try.prog.info? 3 = some ii ∧ ii.zero = some (.int .i64 0) ∧ ii.size = 1 ∧ ii.bytes = 8) := Lib.hid ⟨hi1, hi2, hi3, hi4⟩
  obtain ⟨W, hW⟩ : ∃ W, w.alloc (.cells #[vf, vl] 40) = W := ⟨_, rfl⟩
  have HW := Lib.hid hW
  have HB0 := Lib.hid (show Below w.heap.size w W by rw [← hW]; exact up11 w _)
  have HS0 := Lib.hid (show W.heap.size = w.heap.size + 1 by rw [← hW]; simp)
  have HO0 := Lib.hid (show Mem.Own W w.heap.size 40 [vf, vl] by rw [← hW]; exact Own.made w _ _)
  have HF := Lib.hid (Ints.move (Still.of_below (HB0.out.mono hh)) hf)
  have HL := Lib.hid (Ints.move (Still.of_below (HB0.out.mono hh)) hl)
  have HV := Lib.hid (Ints.move (Still.of_below (HB0.out.mono hh)) hv)
  have HH : Hid (hi ≤ W.heap.size) := Lib.hid (Nat.le_trans hh HB0.out.size)
  have HP := Lib.hid hp
  clear hf hl hv hp hi1 hi2 hi3 hi4 hW
  go_enter Try.func19, Try.ntmps19
  go_wp2_with fail
  rw [HW.out]
  go_loopw [7, 12] (fun vs kv wr => ∃ k : Nat, k ≤ l.length ∧ kv = .int .i64 k ∧ Hid (Hold.Apart wr W.heap.size [innR vs ((l.take k).filter (seesB fi la a))]) ∧ Hid (Below W.heap.size W wr)) (fun _ kv _ => l.length - (intOf kv).toNat)
  case atStart => exact ⟨0, Nat.zero_le _, rfl, Lib.hid ((Hold.Apart.nil W W.heap.size).empty 3 1), Lib.hid (Below.refl _ _)⟩
  case round =>
  obtain ⟨k, hk, rfl, HA, HBr⟩ := hrel
  obtain ⟨As, cs, hvs⟩ := HA.out.head.form
  simp only at hvs
  subst hvs
  by_cases hlt : k < l.length
  · obtain ⟨x, hx⟩ : ∃ x, l[k]? = some x := ⟨_, List.getElem?_eq_getElem hlt⟩
    obtain ⟨q, rfl, hq⟩ := HP.out x (List.mem_of_getElem? hx)
    obtain ⟨b1, o1, rfl⟩ := addr_of9 HV.out (by omega)
    obtain ⟨c1, _, rfl, n1⟩ := cell_of HV.out hx (HBr.out.mono HH.out)
    have m1 := n1 _ rfl
    have hbx := HO0.out.below HBr.out (by have := HS0.out; omega)
    have m2 := hbx.cell 0
    have m3 := hbx.cell 1
    simp only [List.getElem?_cons_zero, List.getElem?_cons_succ] at m2 m3
    have QS := Lib.hid (sees_any lo hi wr vf vl fi la (Ints.move (Still.of_below (HBr.out.mono HH.out)) HF.out) (Ints.move (Still.of_below (HBr.out.mono HH.out)) HL.out) (Nat.le_trans HH.out HBr.out.size) a q ha hq ha2)
    have hfl := List.length_filter_le (seesB fi la a) (l.take k)
    have htl : (l.take k).length ≤ 1000 := by rw [List.length_take]; omega
    have HT := Lib.hid (show (l.take (k + 1)).filter (seesB fi la a) = (l.take k).filter (seesB fi la a) ++ if seesB fi la a (q : Int) = true then [(q : Int)] else [] by
      rw [take_nx hx, List.filter_append]
      congr 1
      by_cases e : seesB fi la a (q : Int) = true
      · rw [if_pos e, List.filter_cons_of_pos e]; rfl
      · rw [if_neg e, List.filter_cons_of_neg e]; rfl)
    obtain ⟨sb, hsb⟩ : ∃ sb, seesB fi la a (q : Int) = sb := ⟨_, rfl⟩
    rw [hsb] at QS HT
    clear n1 hx hsb hbx
    go_wp2_with fail
    refine QS.out.mono ?_
    rintro e w6 ⟨rfl, hb6⟩
    have HA6 := Lib.hid (HA.out.below hb6)
    have HB6 := Lib.hid (HBr.out.trans (hb6.mono HBr.out.size))
    have hs6 := HB6.out.size
    clear hb6
    cases sb with
    | true =>
      go_wp2_with (at_builtin; refine Hold.wpList_grow (R := []) rfl _ _ 31 rfl W.heap.size (innR (.slice As ((l.take k).filter (seesB fi la a)).length cs) ((l.take k).filter (seesB fi la a))) ii _ 8 Try.underlying31 HII.out.1 HII.out.2.1 HII.out.2.2.1 HII.out.2.2.2 rfl Nat.one_pos rfl HA6.out [i64 (q : Int)] _ rfl rfl rfl (by intro u hu; rw [List.mem_singleton] at hu; subst hu; rfl) (by show ((l.take k).filter (seesB fi la a)).length + 1 ≤ _; omega) (by show (((l.take k).filter (seesB fi la a)).length + 1) * 8 ≤ _; omega) hs6 ?_; intro v7 w7 hA7 hB7; have HA7 := Lib.hid (snoc9 (l := (l.take k).filter (seesB fi la a)) hA7); have HB7 := Lib.hid (HB6.out.trans hB7); clear hA7 hB7)
      go_roundw
      case rel => exact ⟨k + 1, by omega, by go_num, by rw [HT.out]; first | (rw [if_pos rfl]; exact HA7) | (rw [if_pos trivial]; exact HA7), HB7⟩
      case measure => simp [intOf]; omega
    | false =>
      go_wp2_with fail
      go_roundw
      case rel => exact ⟨k + 1, by omega, by go_num, by rw [HT.out, if_neg (by simp), List.append_nil]; exact HA6, HB6⟩
      case measure => simp [intOf]; omega
  · have hke : k = l.length := by omega
    have e9 : l.take k = l := by rw [hke, List.take_length]
    have HE := Lib.hid e9
    clear hke e9
    go_wp2_with fail
    go_ret
    refine ⟨_, rfl, ?_, HB0.out.trans (HBr.out.mono HB0.out.size)⟩
    have h9 := Hold.Rec.on.lower (r := innR (.slice As ((l.take k).filter (seesB fi la a)).length cs) ((l.take k).filter (seesB fi la a))) HA.out.head HB0.out.size
    rw [HE.out] at h9 ⊢
    exact h9
end Go.Proofs.Ytiohngbmddfgfaa.Lp11
