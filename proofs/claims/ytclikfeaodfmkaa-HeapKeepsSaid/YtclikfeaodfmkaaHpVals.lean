/-
  Layer 15: package heap's alikeValues and alike, walked.
-/
import Derived.Test.YtclikfeaodfmkaaHpPair
import Derived.Test.YtclikfeaodfmkaaLpTwo
namespace Go.Proofs.Ytclikfeaodfmkaa.Hp15
open Go.RowKit Api Mem Go.Maps

theorem keep6 {w1 w' Wb : World} {a0 a1 a2 a3 a4 a5 : Addr} {v0 v1 v2 v3 v4 v5 : Value} (hb : Below w1.heap.size w1 w') (h : (w1.cell? a0 = some v0 ∧ w1.cell? a1 = some v1 ∧ w1.cell? a2 = some v2 ∧ w1.cell? a3 = some v3 ∧ w1.cell? a4 = some v4 ∧ w1.cell? a5 = some v5) ∧ Hid (Below Wb.heap.size Wb w1)) :
    (w'.cell? a0 = some v0 ∧ w'.cell? a1 = some v1 ∧ w'.cell? a2 = some v2 ∧ w'.cell? a3 = some v3 ∧ w'.cell? a4 = some v4 ∧ w'.cell? a5 = some v5) ∧ Hid (Below Wb.heap.size Wb w') :=
  have k : ∀ {a v}, w1.cell? a = some v → w'.cell? a = some v := fun h => (hb.cell (World.block_lt_of_cell? w1 _ h)).trans h
  ⟨⟨k h.1.1, k h.1.2.1, k h.1.2.2.1, k h.1.2.2.2.1, k h.1.2.2.2.2.1, k h.1.2.2.2.2.2⟩, Lib.hid (h.2.out.trans (hb.mono h.2.out.size))⟩
theorem av_mono {h k : Hp} {x y : Vl} {P Q : Int → Int → Prop} (hs : ∀ n m, P n m → Q n m) (hv : AV h k P x y) : AV h k Q x y := hv.mono hs
set_option maxRecDepth 100000 in
set_option maxHeartbeats 8000000 in
theorem values_any {h k : Hp} {T : PT} {q : List Int} {lo hi : Nat} {w : World} {B pb : Nat} {v1 v2 vr : Value} {g1 g2 : Nat} (x y : Vl) (hM : PM w B pb v1 v2 vr g1 g2 T q) (hB : Base h k T) (hx : NumM.In x.n) (hy : NumM.In y.n) (hl : q.length ≤ 1000000) (hT : T.length ≤ 1000000) (hBw : B ≤ w.heap.size) (hh : hi ≤ w.heap.size) (h1 : Obs lo hi w v1 h) (h2 : Obs lo hi w v2 k) :
    Calls Try.prog 25 #[.pointer (some ⟨pb, 0, none⟩), vlA x, vlA y] w (PairP h k T q (fun P => AV h k P x y) B pb v1 v2 g1 g2 w) := by
  obtain ⟨tx, nx⟩ := x
  obtain ⟨ty, ny⟩ := y
  obtain ⟨A1, c1, rfl⟩ := Row.form h1
  obtain ⟨A2, c2, rfl⟩ := Row.form h2
  obtain ⟨Ar, cr, rfl⟩ := row_form15 hM.row
  obtain ⟨W, hW⟩ : ∃ W, (w.alloc (.cells #[str tx, i64 nx] 25)).alloc (.cells #[str ty, i64 ny] 25) = W := ⟨_, rfl⟩
  have HBW := Lib.hid (show Below w.heap.size w W from hW ▸ (up15 w _).trans ((up15 _ _).mono (by simp)))
  have HO := Lib.hid (show Mem.Own W w.heap.size 25 [str tx, i64 nx] from hW ▸ (Own.made w _ _).alloc _)
  have HR := Lib.hid (show Mem.Own W (w.heap.size + 1) 25 [str ty, i64 ny] from hW ▸ (show w.heap.size + 1 = (w.alloc (.cells #[str tx, i64 nx] 25)).heap.size by simp) ▸ Own.made _ _ _)
  have HW := Lib.hid hW
  have HM := Lib.hid (hM.below HBW.out)
  have HB := Lib.hid hB
  have HX := Lib.hid hx
  have HY := Lib.hid hy
  have H1 := Lib.hid h1
  have H2 := Lib.hid h2
  have HBw := Lib.hid hBw
  have HBB := Lib.hid (show Below B w W from HBW.out.mono hBw)
  clear hM hB hx hy h1 h2 hW hBw
  by_cases e1 : tx = ty
  · obtain rfl : tx = ty := e1
    by_cases e2 : tx = wRef
    · subst e2
      by_cases e3 : nx = 0
      · subst e3
        have nl : ∀ h : Hp, ¬ LeadsP h ⟨wRef, 0⟩ := fun h hl => by have := hl.2.1; simp only at this; omega
        by_cases e4 : ny = 0
        · subst e4
          have HS := Lib.hid (show Step h k T q T q (fun P => AV h k P ⟨wRef, 0⟩ ⟨wRef, 0⟩) from Step.same HB.out ⟨rfl, fun _ => rfl, fun _ => ⟨Iff.rfl, ⟨fun e => absurd e (nl h), fun e => absurd e (nl k)⟩, fun e => absurd e (nl h)⟩⟩)
          clear nl
          go_enter Try.func25, Try.ntmps25
          go_wp2_with fail
          rw [HW.out]
          go_ret
          exact ⟨true, rfl, fun _ => ⟨T, q, _, HS.out, HM.out⟩, fun h => (by cases h), HBB.out⟩
        · have HF := Lib.hid (show Fails T (fun P => AV h k P ⟨wRef, 0⟩ ⟨wRef, ny⟩) from fun P _ _ hv => e4 ((hv.2.2 rfl).1.1 rfl))
          have e4b : ¬ (0 : Int) = ny := fun e => e4 e.symm
          clear nl
          have e5 : (((0 : Int) == ny)) = false := by simpa using e4b
          go_enter Try.func25, Try.ntmps25
          go_wp2_with fail
          rw [HW.out]
          go_ret
          exact ⟨false, rfl, fun h => (by cases h), fun _ => HF.out, HBB.out⟩
      · by_cases e4 : ny = 0
        · subst e4
          have HF := Lib.hid (show Fails T (fun P => AV h k P ⟨wRef, nx⟩ ⟨wRef, 0⟩) from fun P _ _ hv => e3 ((hv.2.2 rfl).1.2 rfl))
          have e5 : (nx == 0) = false := by simpa using e3
          go_enter Try.func25, Try.ntmps25
          go_wp2_with fail
          rw [HW.out]
          go_ret
          exact ⟨false, rfl, fun h => (by cases h), fun _ => HF.out, HBB.out⟩
        · have HE3 := Lib.hid e3
          have HE4 := Lib.hid e4
          have HBB5 := Lib.hid (Nat.le_trans HBw.out HBW.out.size)
          have HMW := Lib.hid (Nat.le_trans HBw.out HBW.out.size)
          have e5 : (nx == 0) = false := by simpa using e3
          have e6 : (ny == 0) = false := by simpa using e4
          have QA := Lib.hid (fun (w5 : World) (hb : Below W.heap.size W w5) => leads_any lo hi w5 _ h (Obs.move (Still.of_below ((HBW.out.trans (hb.mono HBW.out.size)).mono hh)) H1.out) ⟨wRef, nx⟩)
          have QB := Lib.hid (fun (w5 : World) (hb : Below W.heap.size W w5) => leads_any lo hi w5 _ k (Obs.move (Still.of_below ((HBW.out.trans (hb.mono HBW.out.size)).mono hh)) H2.out) ⟨wRef, ny⟩)
          obtain ⟨p0, p1, p2, p3, p4⟩ := HM.out.cells
          obtain ⟨_, q0, q1, _, _, _⟩ := box2 HO.out (Below.refl _ _)
          obtain ⟨_, r0, r1, _, _, _⟩ := box2 HR.out (Below.refl _ _)
          by_cases la : LeadsP h ⟨wRef, nx⟩
          · by_cases lb : LeadsP k ⟨wRef, ny⟩
            · have HLA := Lib.hid la
              have HLB := Lib.hid lb
              clear la lb
              go_enter Try.func25, Try.ntmps25
              go_wp2_with fail
              rw [HW.out]
              go_region_held3 (fun w' => (w'.cell? ⟨pb, 0, none⟩ = some (.slice A1 h.length c1) ∧ w'.cell? ⟨pb, 1, none⟩ = some (.slice A2 k.length c2) ∧ w'.cell? ⟨w.heap.size, 0, none⟩ = some (str wRef) ∧ w'.cell? ⟨w.heap.size, 1, none⟩ = some (i64 nx) ∧ w'.cell? ⟨w.heap.size + 1, 0, none⟩ = some (str wRef) ∧ w'.cell? ⟨w.heap.size + 1, 1, none⟩ = some (i64 ny)) ∧ Hid (Below W.heap.size W w'))
                (first | exact ⟨⟨p0, p1, q0, q1, r0, r1⟩, Lib.hid (Below.refl _ _)⟩ | exact ⟨⟨p0, p1, q0, q1, r0, r1⟩, Lib.hid ((Below.refl _ _).drew)⟩ | exact keep6 hb (by assumption))
                (first | (go_at_call 24; (with_reducible refine (yesH (QA.out _ (Hid.out (And.right (by assumption)))) HLA.out).mono ?_); rintro e w' ⟨rfl, hb⟩) | (go_at_call 24; (with_reducible refine (yesH (QB.out _ (Hid.out (And.right (by assumption)))) HLB.out).mono ?_); rintro e w' ⟨rfl, hb⟩))
              rename_i w5 hHeld
              obtain ⟨⟨s0, s1, s2, s3, s4, s5⟩, HB5⟩ := hHeld
              go_wp2_with fail
              obtain ⟨o, ho⟩ := leads_obj HLA.out
              obtain ⟨p, hp⟩ := leads_obj HLB.out
              refine (pair_any (HM.out.below HB5.out) HB.out HX.out HY.out ho hp hl hT (Nat.le_trans HBB5.out HB5.out.size)).mono ?_
              rintro e w7 ⟨b7, rfl, hy7, hn7, hb7⟩
              have HY7 := Lib.hid hy7
              have HN7 := Lib.hid hn7
              have HB7 := Lib.hid hb7
              clear hy7 hn7 hb7
              go_wp2_with fail
              go_ret
              refine ⟨b7, rfl, fun hb => ?_, fun hb => (HN7.out hb).weak fun P hv => (hv.2.2 rfl).2.2 HLA.out, (HBB.out.trans (HB5.out.mono HBB5.out)).trans HB7.out⟩
              obtain ⟨T', q', vr', hs, hm⟩ := HY7.out hb
              exact ⟨T', q', vr', hs.weak (fun hp => ⟨rfl, fun e => absurd rfl e, fun _ => ⟨⟨fun e => absurd e HE3.out, fun e => absurd e HE4.out⟩, ⟨fun _ => HLB.out, fun _ => HLA.out⟩, fun _ => hp⟩⟩) (fun P hv => (hv.2.2 rfl).2.2 HLA.out), hm⟩
            · have HLA := Lib.hid la
              have HLB := Lib.hid lb
              have HF := Lib.hid (show Fails T (fun P => AV h k P ⟨wRef, nx⟩ ⟨wRef, ny⟩) from fun P _ _ hv => lb ((hv.2.2 rfl).2.1.1 la))
              clear la lb
              go_enter Try.func25, Try.ntmps25
              go_wp2_with fail
              rw [HW.out]
              go_region_held3 (fun w' => (w'.cell? ⟨pb, 0, none⟩ = some (.slice A1 h.length c1) ∧ w'.cell? ⟨pb, 1, none⟩ = some (.slice A2 k.length c2) ∧ w'.cell? ⟨w.heap.size, 0, none⟩ = some (str wRef) ∧ w'.cell? ⟨w.heap.size, 1, none⟩ = some (i64 nx) ∧ w'.cell? ⟨w.heap.size + 1, 0, none⟩ = some (str wRef) ∧ w'.cell? ⟨w.heap.size + 1, 1, none⟩ = some (i64 ny)) ∧ Hid (Below W.heap.size W w'))
                (first | exact ⟨⟨p0, p1, q0, q1, r0, r1⟩, Lib.hid (Below.refl _ _)⟩ | exact ⟨⟨p0, p1, q0, q1, r0, r1⟩, Lib.hid ((Below.refl _ _).drew)⟩ | exact keep6 hb (by assumption))
                (first | (go_at_call 24; (with_reducible refine (yesH (QA.out _ (Hid.out (And.right (by assumption)))) HLA.out).mono ?_); rintro e w' ⟨rfl, hb⟩) | (go_at_call 24; (with_reducible refine (notH (QB.out _ (Hid.out (And.right (by assumption)))) HLB.out).mono ?_); rintro e w' ⟨rfl, hb⟩))
              rename_i w5 hHeld
              obtain ⟨⟨s0, s1, s2, s3, s4, s5⟩, HB5⟩ := hHeld
              go_wp2_with fail
              go_region_held3 (fun w' => (w'.cell? ⟨pb, 0, none⟩ = some (.slice A1 h.length c1) ∧ w'.cell? ⟨pb, 1, none⟩ = some (.slice A2 k.length c2) ∧ w'.cell? ⟨w.heap.size, 0, none⟩ = some (str wRef) ∧ w'.cell? ⟨w.heap.size, 1, none⟩ = some (i64 nx) ∧ w'.cell? ⟨w.heap.size + 1, 0, none⟩ = some (str wRef) ∧ w'.cell? ⟨w.heap.size + 1, 1, none⟩ = some (i64 ny)) ∧ Hid (Below W.heap.size W w'))
                (first | exact ⟨⟨s0, s1, s2, s3, s4, s5⟩, Lib.hid HB5.out⟩ | exact ⟨⟨s0, s1, s2, s3, s4, s5⟩, Lib.hid (HB5.out.drew)⟩ | exact keep6 hb (by assumption))
                (first | (go_at_call 24; (with_reducible refine (yesH (QA.out _ (Hid.out (And.right (by assumption)))) HLA.out).mono ?_); rintro e w' ⟨rfl, hb⟩) | (go_at_call 24; (with_reducible refine (notH (QB.out _ (Hid.out (And.right (by assumption)))) HLB.out).mono ?_); rintro e w' ⟨rfl, hb⟩))
              rename_i w7 hHeld
              have HB7 := hHeld.2
              clear hHeld
              go_wp2_with fail
              go_ret
              exact ⟨false, rfl, fun h => (by cases h), fun _ => HF.out, HBB.out.trans (HB7.out.mono HMW.out)⟩
          · by_cases lb : LeadsP k ⟨wRef, ny⟩
            · have HLA := Lib.hid la
              have HLB := Lib.hid lb
              have HF := Lib.hid (show Fails T (fun P => AV h k P ⟨wRef, nx⟩ ⟨wRef, ny⟩) from fun P _ _ hv => la ((hv.2.2 rfl).2.1.2 lb))
              clear la lb
              go_enter Try.func25, Try.ntmps25
              go_wp2_with fail
              rw [HW.out]
              refine Lp11.wp_region_two 5 (by kernel_rfl) (by kernel_rfl) rfl ?_
              simp only [List.take_succ_cons, List.take_zero, List.drop_succ_cons, List.drop_zero, List.length_cons, List.length_nil, Nat.reduceAdd, Nat.reduceSub]
              repeat still_step
              try refine wpStill_nil ?_
              go_wp2_with fail
              refine (notH (QA.out W.drew ((Below.refl _ _).drew)) HLA.out).mono ?_
              rintro e w5 ⟨rfl, hb6⟩
              have HB5 := Lib.hid (show Below W.heap.size W w5 from ((Below.refl _ _).drew).trans hb6)
              obtain ⟨⟨s0, s1, s2, s3, s4, s5⟩, hz9⟩ := keep6 (Wb := W) (show Below W.heap.size W w5 from HB5.out) ⟨⟨p0, p1, q0, q1, r0, r1⟩, Lib.hid (Below.refl _ _)⟩
              clear hb6 hz9
              dsimp only
              rename_i hK9
              refine hK9 _ _ ?_
              show wpStill _ _ _ _ _ _
              repeat (with_reducible refine Lp11.wpStill_step2 ?_; intro K J hJ hK; go_simp; refine hK _ ?_; have hj := hJ.out; subst hj; clear hK hJ K)
              with_reducible refine wpStill_nil ?_
              go_wp2_with fail
              go_region_held3 (fun w' => (w'.cell? ⟨pb, 0, none⟩ = some (.slice A1 h.length c1) ∧ w'.cell? ⟨pb, 1, none⟩ = some (.slice A2 k.length c2) ∧ w'.cell? ⟨w.heap.size, 0, none⟩ = some (str wRef) ∧ w'.cell? ⟨w.heap.size, 1, none⟩ = some (i64 nx) ∧ w'.cell? ⟨w.heap.size + 1, 0, none⟩ = some (str wRef) ∧ w'.cell? ⟨w.heap.size + 1, 1, none⟩ = some (i64 ny)) ∧ Hid (Below W.heap.size W w'))
                (first | exact ⟨⟨s0, s1, s2, s3, s4, s5⟩, Lib.hid HB5.out⟩ | exact ⟨⟨s0, s1, s2, s3, s4, s5⟩, Lib.hid (HB5.out.drew)⟩ | exact keep6 hb (by assumption))
                (first | (go_at_call 24; (with_reducible refine (notH (QA.out _ (Hid.out (And.right (by assumption)))) HLA.out).mono ?_); rintro e w' ⟨rfl, hb⟩) | (go_at_call 24; (with_reducible refine (yesH (QB.out _ (Hid.out (And.right (by assumption)))) HLB.out).mono ?_); rintro e w' ⟨rfl, hb⟩))
              rename_i w7 hHeld
              have HB7 := hHeld.2
              clear hHeld
              go_wp2_with fail
              go_ret
              exact ⟨false, rfl, fun h => (by cases h), fun _ => HF.out, HBB.out.trans (HB7.out.mono HMW.out)⟩
            · have HLA := Lib.hid la
              have HLB := Lib.hid lb
              have HS := Lib.hid (show Step h k T q T q (fun P => AV h k P ⟨wRef, nx⟩ ⟨wRef, ny⟩) from Step.same HB.out ⟨rfl, fun e => absurd rfl e, fun _ => ⟨⟨fun e => absurd e HE3.out, fun e => absurd e HE4.out⟩, ⟨fun e => absurd e la, fun e => absurd e lb⟩, fun e => absurd e la⟩⟩)
              clear la lb
              go_enter Try.func25, Try.ntmps25
              go_wp2_with fail
              rw [HW.out]
              refine Lp11.wp_region_two 5 (by kernel_rfl) (by kernel_rfl) rfl ?_
              simp only [List.take_succ_cons, List.take_zero, List.drop_succ_cons, List.drop_zero, List.length_cons, List.length_nil, Nat.reduceAdd, Nat.reduceSub]
              repeat still_step
              try refine wpStill_nil ?_
              go_wp2_with fail
              refine (notH (QA.out W.drew ((Below.refl _ _).drew)) HLA.out).mono ?_
              rintro e w5 ⟨rfl, hb6⟩
              have HB5 := Lib.hid (show Below W.heap.size W w5 from ((Below.refl _ _).drew).trans hb6)
              obtain ⟨⟨s0, s1, s2, s3, s4, s5⟩, hz9⟩ := keep6 (Wb := W) (show Below W.heap.size W w5 from HB5.out) ⟨⟨p0, p1, q0, q1, r0, r1⟩, Lib.hid (Below.refl _ _)⟩
              clear hb6 hz9
              dsimp only
              rename_i hK9
              refine hK9 _ _ ?_
              show wpStill _ _ _ _ _ _
              repeat (with_reducible refine Lp11.wpStill_step2 ?_; intro K J hJ hK; go_simp; refine hK _ ?_; have hj := hJ.out; subst hj; clear hK hJ K)
              with_reducible refine wpStill_nil ?_
              go_wp2_with fail
              go_region_held3 (fun w' => (w'.cell? ⟨pb, 0, none⟩ = some (.slice A1 h.length c1) ∧ w'.cell? ⟨pb, 1, none⟩ = some (.slice A2 k.length c2) ∧ w'.cell? ⟨w.heap.size, 0, none⟩ = some (str wRef) ∧ w'.cell? ⟨w.heap.size, 1, none⟩ = some (i64 nx) ∧ w'.cell? ⟨w.heap.size + 1, 0, none⟩ = some (str wRef) ∧ w'.cell? ⟨w.heap.size + 1, 1, none⟩ = some (i64 ny)) ∧ Hid (Below W.heap.size W w'))
                (first | exact ⟨⟨s0, s1, s2, s3, s4, s5⟩, Lib.hid HB5.out⟩ | exact ⟨⟨s0, s1, s2, s3, s4, s5⟩, Lib.hid (HB5.out.drew)⟩ | exact keep6 hb (by assumption))
                (first | (go_at_call 24; (with_reducible refine (notH (QA.out _ (Hid.out (And.right (by assumption)))) HLA.out).mono ?_); rintro e w' ⟨rfl, hb⟩) | (go_at_call 24; (with_reducible refine (notH (QB.out _ (Hid.out (And.right (by assumption)))) HLB.out).mono ?_); rintro e w' ⟨rfl, hb⟩))
              rename_i w7 hHeld
              have HB7 := hHeld.2
              clear hHeld
              go_wp2_with fail
              go_ret
              exact ⟨true, rfl, fun _ => ⟨T, q, _, HS.out, HM.out.below HB7.out⟩, fun h => (by cases h), HBB.out.trans (HB7.out.mono HMW.out)⟩
    · have e3 : (tx == wRef) = false := by simpa using e2
      by_cases e4 : nx = ny
      · subst e4
        have HV := Lib.hid (show ∀ P, AV h k P ⟨tx, nx⟩ ⟨tx, nx⟩ from fun P => ⟨rfl, fun _ => rfl, fun e => absurd e e2⟩)
        clear e2
        go_enter Try.func25, Try.ntmps25
        go_wp2_with fail
        rw [HW.out]
        go_ret
        exact ⟨true, rfl, fun _ => ⟨T, q, _, Step.same HB.out (HV.out _), HM.out⟩, fun h => (by cases h), HBB.out⟩
      · have HV := Lib.hid (show Fails T (fun P => AV h k P ⟨tx, nx⟩ ⟨tx, ny⟩) from fun P _ _ hv => e4 (hv.2.1 e2))
        have e5 : (nx == ny) = false := by simpa using e4
        clear e2
        go_enter Try.func25, Try.ntmps25
        go_wp2_with fail
        rw [HW.out]
        go_ret
        exact ⟨false, rfl, fun h => (by cases h), fun _ => HV.out, HBB.out⟩
  · have e2 : (tx == ty) = false := by simpa using e1
    have HV := Lib.hid (show Fails T (fun P => AV h k P ⟨tx, nx⟩ ⟨ty, ny⟩) from fun P _ _ hv => e1 hv.1)
    clear e1
    go_enter Try.func25, Try.ntmps25
    go_wp2_with fail
    rw [HW.out]
    go_ret
    exact ⟨false, rfl, fun h => (by cases h), fun _ => HV.out, HBB.out⟩
end Go.Proofs.Ytclikfeaodfmkaa.Hp15
