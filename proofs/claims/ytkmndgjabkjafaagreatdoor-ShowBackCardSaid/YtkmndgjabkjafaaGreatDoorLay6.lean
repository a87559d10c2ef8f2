/-
  Package show: the lines of a program, laid; its text.
-/
import Derived.Test.YtkmndgjabkjafaaGreatDoorLay5
import Derived.Test.YtkmndgjabkjafaaGreatDoorRights4
import Derived.Deep.QuietTactic
import Derived.BigQuiet
import Derived.Deep.RegionLaw
namespace Go.Proofs.YtkmndgjabkjafaaGreatDoor.Sh6
open Go.RowKit Api Syn WordM Mem Rd5
open LinesM hiding Wd

theorem prog_heads (q : Prog) : progLs q = headLs q ++ q.funcs.flatMap funcLs := by unfold progLs headLs; simp
theorem heads_ne (q : Prog) : ∀ ws ∈ headLs q, ws ≠ [] := fun ws h => prog_ne q ws (by rw [prog_heads]; exact List.mem_append_left _ h)
theorem below_drewN {B : Nat} {a w : World} (h : Below B a w) (n : Nat) : Below B a (w.drewN n) := ⟨h.os, h.tape, h.output, h.size, h.block⟩
def LaidR (w : World) (q : Prog) (e : Ending) (w' : World) : Prop :=
  Below w.heap.size w w' ∧ ∃ v b, e = .returned (.tuple #[v, .bool b]) ∧ (wp q ≤ 4194304 → b = true ∧ ∃ xs, OwnLins 102 9 w.heap.size w'.heap.size w' v xs ∧ wordsOf xs = progLs q) ∧ (4194304 < wp q → b = false)
set_option maxRecDepth 100000 in
set_option maxHeartbeats 16000000 in
theorem laid_any (lo hi : Nat) (w : World) (cs : List Value) (q : Prog) (hp : ProgC lo hi w cs q) (hh : hi ≤ w.heap.size) (hL : LaidS w) (hR : progR q = true) (hI : progI q) (hE : ∀ e ∈ q.externs, NumM.In e.n) :
    Calls Tryz.prog 26 #[.agg cs.toArray] w (LaidR w q) := by
  have hp0 := hp
  obtain ⟨u1, u2, u3, u4, rfl, k1, k2, k3, k4⟩ := hp
  obtain ⟨B1, c1, rfl⟩ := k1.form
  obtain ⟨B2, c2, rfl⟩ := k2.form
  obtain ⟨B3, c3, rfl⟩ := k3.form
  obtain ⟨B4, c4, rfl⟩ := k4.form
  have hwp : wp q ≤ 2147483648 := wp_le hR hI
  have hwl : wp q = wls (progLs q) := rfl
  have hNh : (headLs q).length ≤ wls (headLs q) := len_wls (heads_ne q)
  have hsp := prog_heads q
  have hws : wls (progLs q) = wls (headLs q) + wls (q.funcs.flatMap funcLs) := by rw [hsp, wls_app]
  have hNf : (q.funcs.flatMap funcLs).length ≤ wls (q.funcs.flatMap funcLs) := len_wls fun ws hw => prog_ne q ws (by rw [hsp]; exact List.mem_append_right _ hw)
  have hfs : ∀ f ∈ q.funcs, funcR f = true := by
    unfold progR allR at hR
    simp only [Bool.and_eq_true, List.all_eq_true] at hR
    exact hR.2.2.2.2
  obtain ⟨W, hW⟩ : ∃ W, ((w.alloc (.cells #[.bool q.ssa, .slice B1 q.classes.length c1, .slice B2 q.globals.length c2, .slice B3 q.externs.length c3, .slice B4 q.funcs.length c4] 27)).alloc (.cells #[.slice none 0 0] 60)).alloc (.cells #[i64 4194304] 3) = W := ⟨_, rfl⟩
  have ol : Own W (w.heap.size + 1) 60 [.slice none 0 0] := by
    rw [← hW]
    have := Own.made (w.alloc (.cells #[.bool q.ssa, .slice B1 q.classes.length c1, .slice B2 q.globals.length c2, .slice B3 q.externs.length c3, .slice B4 q.funcs.length c4] 27)) 60 [.slice none 0 0]
    rw [show (w.alloc (.cells #[.bool q.ssa, .slice B1 q.classes.length c1, .slice B2 q.globals.length c2, .slice B3 q.externs.length c3, .slice B4 q.funcs.length c4] 27)).heap.size = w.heap.size + 1 by simp] at this
    exact this.alloc _
  have op : Own W w.heap.size 27 [.bool q.ssa, .slice B1 q.classes.length c1, .slice B2 q.globals.length c2, .slice B3 q.externs.length c3, .slice B4 q.funcs.length c4] := by rw [← hW]; exact ((Own.made w 27 [.bool q.ssa, .slice B1 q.classes.length c1, .slice B2 q.globals.length c2, .slice B3 q.externs.length c3, .slice B4 q.funcs.length c4]).alloc _).alloc _
  have of : Own W (w.heap.size + 1 + 1) 3 [i64 4194304] := by
    rw [← hW]
    have := Own.made ((w.alloc (.cells #[.bool q.ssa, .slice B1 q.classes.length c1, .slice B2 q.globals.length c2, .slice B3 q.externs.length c3, .slice B4 q.funcs.length c4] 27)).alloc (.cells #[.slice none 0 0] 60)) 3 [i64 4194304]
    rw [show ((w.alloc (.cells #[.bool q.ssa, .slice B1 q.classes.length c1, .slice B2 q.globals.length c2, .slice B3 q.externs.length c3, .slice B4 q.funcs.length c4] 27)).alloc (.cells #[.slice none 0 0] 60)).heap.size = w.heap.size + 1 + 1 by simp] at this
    exact this
  have hb : Below w.heap.size w W := by rw [← hW]; exact (((Below.refl _ _).alloc (Nat.le_refl _) _).alloc (by simp) _).alloc (by simp; omega) _
  have hS : LayS w.heap.size (w.heap.size + 1) (w.heap.size + 1 + 1) W [] 4194304 := ⟨by omega, by omega, of, _, [], ol, OwnLins.nil _ _ _ _ _, rfl⟩
  obtain ⟨lb, hlb⟩ : ∃ lb, w.heap.size + 1 = lb := ⟨_, rfl⟩
  have hq := ProgC.move (Still.of_below (hb.mono hh)) hp0
  have QH := Lib.hid (layHeads_any lo hi W w.heap.size (w.heap.size + 1) (w.heap.size + 1 + 1) [] 4194304 _ q hq hh hE hS (by simp) (by omega) (by omega) (by omega) (by omega))
  have HW := Lib.hid hW
  have HS := Lib.hid (Laid.start hS (Below.refl _ _))
  have HO := Lib.hid op
  have HB := Lib.hid hb
  have HL := Lib.hid hL
  have HFS := Lib.hid hfs
  have HI := Lib.hid hI
  have K4 := Lib.hid k4
  have HSP := Lib.hid hsp
  have HWS := Lib.hid hws
  have HNF := Lib.hid hNf
  have HNH := Lib.hid hNh
  have HWP := Lib.hid hwp
  clear ol op of hb hS hW hlb hq hL hfs hI k1 k2 k3 k4 hsp hws hNf hNh hwp hp0 hE hR hwl
  go_enter Tryz.func26, Tryz.ntmps26
  go_wp2_with fail
  rw [HW.out]
  refine QH.out.mono ?_
  rintro e w1 hP
  obtain ⟨rfl, hP, hk1⟩ := HS.out.lines (T := []) (by simpa [wls] using hP)
  have HP1 := Lib.hid hP
  have HO1 := Lib.hid (hk1 _ _ _ HO.out (by decide) (by decide) (by decide))
  have g4 := HO1.out.cell 4
  simp only [List.getElem?_cons_succ, List.getElem?_cons_zero] at g4
  clear hP hk1 QH HS HO
  go_wp2_with fail
  clear g4
  go_loopw [18] (fun i wr => ∃ (k : Nat) (T : List (List Wd)), k ≤ q.funcs.length ∧ i = .int .i64 k ∧ Hid (wls T ≤ wls (headLs q) + wls ((q.funcs.take k).flatMap funcLs) ∧ T.length ≤ (headLs q).length + ((q.funcs.take k).flatMap funcLs).length ∧ (T = headLs q ++ (q.funcs.take k).flatMap funcLs ∨ (4194304 : Int) - (wls T : Nat) < 0)) ∧ Hid (Laid w.heap.size (w.heap.size + 1) (w.heap.size + 1 + 1) W [] 4194304 T wr)) (fun i _ => q.funcs.length - (intOf i).toNat)
  case atStart => exact ⟨0, [] ++ headLs q, Nat.zero_le _, rfl, Lib.hid ⟨by simp, by simp, .inl (by simp)⟩, HP1⟩
  case round =>
  obtain ⟨k, T, hk, rfl, HT, HP⟩ := hrel
  by_cases hlt : k < q.funcs.length
  · obtain ⟨f, hf⟩ : ∃ y, q.funcs[k]? = some y := ⟨_, List.getElem?_eq_getElem hlt⟩
    obtain ⟨b3, f3, hn3, hm3, a3, j3⟩ := K4.out.get
    obtain ⟨rfl, _, hb3⟩ := a3 (by omega)
    obtain ⟨cs3, _, q3, hu⟩ := j3 k _ hf
    have hmem := List.mem_of_getElem? hf
    have hbw : Below w.heap.size w wr := HB.out.trans HP.out.2.1
    have hu3 := hu
    have hpre := flat_wls funcLs q.funcs (k + 1)
    have hpl := flat_len funcLs q.funcs (k + 1)
    have hw1 := HT.out.1
    have hn1 := HT.out.2.1
    have e1 : (q.funcs.take (k + 1)).flatMap funcLs = (q.funcs.take k).flatMap funcLs ++ funcLs f := by rw [LinesM.take_next hf, List.flatMap_append]; simp
    have hwf : wls ((q.funcs.take (k + 1)).flatMap funcLs) = wls ((q.funcs.take k).flatMap funcLs) + wls (funcLs f) := by rw [e1, wls_app]
    have hnf : ((q.funcs.take (k + 1)).flatMap funcLs).length = ((q.funcs.take k).flatMap funcLs).length + (funcLs f).length := by rw [e1, List.length_append]
    have c1 := HWS.out
    have c2 := HNF.out
    have c3 := HNH.out
    have c4 : wls (progLs q) ≤ 2147483648 := HWP.out
    obtain ⟨x1, x2, x3, e1', y1, y2, y3⟩ := hu
    subst e1'
    obtain ⟨D1, d1, rfl⟩ := y1.form
    obtain ⟨D2, d2, rfl⟩ := y2.form
    obtain ⟨D3, d3, rfl⟩ := y3.form
    obtain ⟨m0, m1, m2, m3, m4⟩ := at5 (cells_later q3 hbw (by omega))
    obtain ⟨W2, hW2⟩ : ∃ W2, wr.alloc (.cells #[str f.name, str f.result, .slice D1 f.params.length d1, .slice D2 f.vars.length d2, .slice D3 f.blocks.length d3] 38) = W2 := ⟨_, rfl⟩
    have hbx : Below wr.heap.size wr W2 := by rw [← hW2]; exact (Below.refl _ _).alloc (Nat.le_refl _) _
    have hbw2 : Below w.heap.size w W2 := hbw.trans (hbx.mono HP.out.size)
    have hl2 := HP.out.below hbx
    have hu2 := FuncC.move (Still.of_below (hbw2.mono hh)) hu3
    have QF := Lib.hid (layFunc_any lo hi W2 w.heap.size (w.heap.size + 1) (w.heap.size + 1 + 1) ([] ++ T) (4194304 - (wls T : Nat)) _ f hu2 hh (HL.out.below hbw2 (Nat.le_refl _)) HL.out.lt (HFS.out f hmem) (HI.out f hmem) hl2.1 (by simp only [List.nil_append]; omega) (by omega) (by omega) (by omega))
    have HL2 := Lib.hid hl2
    have HW2 := Lib.hid hW2
    clear hbx hbw2 hl2 hW2 hu3
    have HE1 := Lib.hid e1
    have HWF := Lib.hid hwf
    have HNF1 := Lib.hid hnf
    clear hf q3 j3 a3 hu2 y1 y2 y3 hbw hmem hpre hpl hw1 hn1 e1 hwf hnf c1 c2 c3 c4
    go_wp2_with fail
    rw [HW2.out]
    refine QF.out.mono ?_
    rintro e w5 ⟨rfl, T2, g1, g2, g3, g4⟩
    have hl5 := (HL2.out.lines (T2 := T2) (e := .returned (.tuple #[])) ⟨rfl, g3.1, g3.2.1, g3.2.2⟩).2.1
    have HL5 := Lib.hid hl5
    have HT5 : Hid (wls (T ++ T2) ≤ wls (headLs q) + wls ((q.funcs.take (k + 1)).flatMap funcLs) ∧ (T ++ T2).length ≤ (headLs q).length + ((q.funcs.take (k + 1)).flatMap funcLs).length ∧ (T ++ T2 = headLs q ++ (q.funcs.take (k + 1)).flatMap funcLs ∨ (4194304 : Int) - (wls (T ++ T2) : Nat) < 0)) := by
      obtain ⟨h1, h2, h3⟩ := HT.out
      refine Lib.hid ⟨by rw [wls_app, HWF.out]; omega, by rw [List.length_append, HNF1.out]; omega, ?_⟩
      rcases h3 with h3 | h3
      · rcases g4 with g4 | g4
        · left
          rw [HE1.out, h3, g4, List.append_assoc]
        · right
          rw [wls_app]
          omega
      · right
        rw [wls_app]
        omega
    clear g1 g2 g3 g4 hl5
    go_wp2_with fail
    go_roundw
    case rel => exact ⟨k + 1, T ++ T2, by omega, by go_num, HT5, HL5⟩
    case measure => simp [intOf]; omega
  · have hkn : q.funcs.take k = q.funcs := List.take_of_length_le (by omega)
    obtain ⟨ha, hb', of2, u, xs, hL2, ol2, hwo⟩ := HP.out.1
    have HOF := Lib.hid of2
    have HOL := Lib.hid ol2
    have HWO := Lib.hid hwo
    have r0 := hL2.cell 0
    have r1 := of2.cell 0
    simp only [List.getElem?_cons_zero] at r0 r1
    have QF := full_any wr.drew _ _ of2.drew
    have hd1 : wp q = wls (headLs q) + wls (q.funcs.flatMap funcLs) := HWS.out
    rw [hkn] at HT
    have HBW := Lib.hid (HB.out.trans HP.out.2.1)
    clear ha hb' of2 hwo hL2 hkn
    by_cases hful : (4194304 : Int) - (wls T : Nat) < 0
    · rw [decide_eq_true hful] at QF
      have QF2 := Lib.hid QF
      have hbig : 4194304 < wp q := by have := HT.out.1; omega
      clear QF hful r1 ol2
      go_wp2_with fail
      go_region_law (first | (go_simp; (refine QF2.out.mono ?_); rintro e w5 ⟨rfl, hw5⟩; obtain rfl := hw5))
      all_goals
        go_wp2_with fail
        go_ret2
        exact ⟨HBW.out.drew, _, _, rfl, fun h => absurd h (by omega), fun _ => rfl⟩
    · rw [decide_eq_false hful] at QF
      have QF2 := Lib.hid QF
      have hT : T = progLs q := by
        rcases HT.out.2.2 with h | h
        · rw [h, ← HSP.out]
        · exact absurd h hful
      have hsml : ¬ 4194304 < wp q := by
        have e : wp q = wls T := by rw [hT]; rfl
        omega
      have HTT := Lib.hid hT
      have HSM := Lib.hid hsml
      clear QF hful r1 ol2 hT hsml
      go_wp2_with fail
      go_region_law (first | (go_simp; (refine QF2.out.mono ?_); rintro e w5 ⟨rfl, hw5⟩; obtain rfl := hw5))
      all_goals
        go_wp2_with fail
        go_ret2
        exact ⟨HBW.out.drew, _, _, rfl, fun _ => ⟨rfl, xs, HOL.out, by rw [HWO.out, ← HTT.out, List.nil_append]⟩, fun h => absurd h HSM.out⟩

set_option maxRecDepth 100000 in
set_option maxHeartbeats 16000000 in
theorem text_any (lo hi : Nat) (w : World) (cs : List Value) (q : Prog) (hp : ProgC lo hi w cs q) (hh : hi ≤ w.heap.size) (hL : LaidS w) (hB : ∀ f ∈ q.funcs, Bd f) (hI : progI q) (hE : ∀ e ∈ q.externs, NumM.In e.n) :
    Calls Tryz.prog 13 #[.agg cs.toArray] w fun e w' => e = .returned (.tuple #[str (textV q).1, i64 (textV q).2]) ∧ Below w.heap.size w w' := by
  have hp0 := hp
  obtain ⟨u1, u2, u3, u4, rfl, k1, k2, k3, k4⟩ := hp
  obtain ⟨B1, c1, rfl⟩ := k1.form
  obtain ⟨B2, c2, rfl⟩ := k2.form
  obtain ⟨B3, c3, rfl⟩ := k3.form
  obtain ⟨B4, c4, rfl⟩ := k4.form
  obtain ⟨W, hW⟩ : ∃ W, w.alloc (.cells #[.bool q.ssa, .slice B1 q.classes.length c1, .slice B2 q.globals.length c2, .slice B3 q.externs.length c3, .slice B4 q.funcs.length c4] 27) = W := ⟨_, rfl⟩
  obtain ⟨oW, bW, zW⟩ := boxed1 (c := [.bool q.ssa, .slice B1 q.classes.length c1, .slice B2 q.globals.length c2, .slice B3 q.externs.length c3, .slice B4 q.funcs.length c4]) hW
  have HW := Lib.hid hW
  have HO := Lib.hid oW
  have HBW := Lib.hid bW
  have hLW := hL.below bW (Nat.le_refl _)
  have hpW := ProgC.move (Still.of_below (bW.mono hh)) hp0
  have hhW : hi ≤ W.heap.size := by omega
  have HZ : Hid (w.heap.size < W.heap.size) := Lib.hid (by omega)
  clear hW oW bW
  obtain ⟨d, hd⟩ : ∃ d, progR q = d := ⟨_, rfl⟩
  have QR := prog_any lo hi W _ q hpW hhW hLW hB
  rw [hd] at QR
  have QR2 := Lib.hid QR
  clear QR
  cases d with
  | false =>
    have hv : textV q = ([], 1) := by unfold textV; rw [hd]; rfl
    rw [hv]
    have HD := Lib.hid hd
    clear hd hv hp0 hpW hLW k1 k2 k3 k4 hL hI hE hB
    go_enter Tryz.func13, Tryz.ntmps13
    go_wp2_with fail
    rw [HW.out]
    refine QR2.out.mono ?_
    rintro e w1 ⟨rfl, hb⟩
    have HB1 := Lib.hid hb
    clear hb
    go_wp2_with fail
    go_ret2
    exact ⟨rfl, HBW.out.trans (HB1.out.mono HBW.out.size)⟩
  | true =>
    have QL := Lib.hid fun w1 (hb : Below W.heap.size W w1) => laid_any lo hi w1 _ q (ProgC.move (Still.of_below (hb.mono hhW)) hpW) (Nat.le_trans hhW hb.size) (hLW.below hb (Nat.le_refl _)) hd hI hE
    have hwp := wp_le hd hI
    have hjw := join_wp q
    by_cases hbig : 4194304 < wp q
    · have hv : textV q = ([], 2) := by unfold textV; rw [hd, if_pos rfl, if_neg (by omega)]
      rw [hv]
      have HD := Lib.hid hd
      have HBG := Lib.hid hbig
      clear hd hv hp0 hpW hLW k1 k2 k3 k4 hL hI hE hB hwp hjw hbig
      go_enter Tryz.func13, Tryz.ntmps13
      go_wp2_with fail
      rw [HW.out]
      refine QR2.out.mono ?_
      rintro e w1 ⟨rfl, hb⟩
      have HB1 := Lib.hid hb
      have o1 := HO.out.below hb HZ.out
      have g0 := o1.cell 0
      have g1 := o1.cell 1
      have g2 := o1.cell 2
      have g3 := o1.cell 3
      have g4 := o1.cell 4
      simp only [List.getElem?_cons_succ, List.getElem?_cons_zero] at g0 g1 g2 g3 g4
      clear hb o1
      go_wp2_with fail
      refine (QL.out w1 HB1.out).mono ?_
      rintro e w2 ⟨hb2, v, b, rfl, _, h2⟩
      obtain rfl := h2 HBG.out
      have HB2 := Lib.hid (HBW.out.trans ((HB1.out.trans (hb2.mono HB1.out.size)).mono HBW.out.size))
      clear h2 hb2
      go_wp2_with fail
      go_ret2
      exact ⟨rfl, HB2.out⟩
    · have hv : textV q = (joinV (progLs q), 0) := by unfold textV; rw [hd, if_pos rfl, if_pos (by omega)]
      rw [hv]
      have HD := Lib.hid hd
      have HBG := Lib.hid hbig
      have HWP := Lib.hid hwp
      have HJW := Lib.hid hjw
      have hlw := len_wp q
      have HLW := Lib.hid hlw
      clear hd hv hp0 hpW hLW k1 k2 k3 k4 hL hI hE hB hwp hjw hbig hlw
      go_enter Tryz.func13, Tryz.ntmps13
      go_wp2_with fail
      rw [HW.out]
      refine QR2.out.mono ?_
      rintro e w1 ⟨rfl, hb⟩
      have HB1 := Lib.hid hb
      have o1 := HO.out.below hb HZ.out
      have g0 := o1.cell 0
      have g1 := o1.cell 1
      have g2 := o1.cell 2
      have g3 := o1.cell 3
      have g4 := o1.cell 4
      simp only [List.getElem?_cons_succ, List.getElem?_cons_zero] at g0 g1 g2 g3 g4
      clear hb o1
      go_wp2_with fail
      refine (QL.out w1 HB1.out).mono ?_
      rintro e w2 ⟨hb2, v, b, rfl, h2, _⟩
      obtain ⟨rfl, xs, ho, hx⟩ := h2 (by have := HBG.out; omega)
      have HB2 := Lib.hid (HBW.out.trans ((HB1.out.trans (hb2.mono HB1.out.size)).mono HBW.out.size))
      have hxl : xs.length = (progLs q).length := by rw [← hx]; simp [wordsOf]
      have QJ := join_any w1.heap.size w2.heap.size w2 v xs (ho.lins (by have := HLW.out; have := HWP.out; omega)) (Nat.le_refl _) (by rw [hx, HJW.out]; have := HWP.out; omega)
      rw [hx] at QJ
      have QJ2 := Lib.hid QJ
      clear h2 hb2 ho hx hxl QJ
      go_wp2_with fail
      refine QJ2.out.mono ?_
      rintro e w3 ⟨rfl, hb3⟩
      have HB3 := Lib.hid (HB2.out.trans (hb3.mono HB2.out.size))
      clear hb3
      go_wp2_with fail
      go_ret2
      exact ⟨rfl, HB3.out⟩
end Go.Proofs.YtkmndgjabkjafaaGreatDoor.Sh6
