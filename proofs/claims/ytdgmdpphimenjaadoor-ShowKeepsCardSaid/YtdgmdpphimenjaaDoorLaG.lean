/-
  Lay6 Law06 Conv6 LaidS
-/
import Derived.Test.YtdgmdpphimenjaaDoorN1
import Derived.Test.YtdgmdpphimenjaaDoorR1
import Derived.Deep.QuietTactic
import Derived.BigQuiet
import Derived.Deep.RegionLaw
import Derived.Test.YtdgmdpphimenjaaDoorF1
import Derived.Test.YtdgmdpphimenjaaDoorOpenP
import Derived.Test.YtdgmdpphimenjaaDoorRows
import Derived.Test.YtdgmdpphimenjaaDoorForms
import Derived.Lib.LaidU8
import Derived.LaidMore
import Derived.MakeChecks
import Derived.KernelRfl
/-
  Package show: the lines of a program, laid; its text.
-/
namespace Go.Proofs.YtdgmdpphimenjaaDoor.Sh6
open Go.RowKit Api Syn WordM Mem Rd5
open LinesM hiding Wd

theorem prog_heads (q : Prog) : progLs q = headLs q ++ q.funcs.flatMap funcLs := by unfold progLs headLs; simp
theorem heads_ne (q : Prog) : ∀ ws ∈ headLs q, ws ≠ [] := fun ws h => prog_ne q ws (by rw [prog_heads]; exact List.mem_append_left _ h)
theorem below_drewN {B : Nat} {a w : World} (h : Below B a w) (n : Nat) : Below B a (w.drewN n) := ⟨h.os, h.tape, h.output, h.size, h.block⟩
def LaidR (w : World) (q : Prog) (e : Ending) (w' : World) : Prop :=
  Below w.heap.size w w' ∧ ∃ v b, e = .returned (.tuple #[v, .bool b]) ∧ (wp q ≤ 4194304 → b = true ∧ ∃ xs, OwnLins 115 9 w.heap.size w'.heap.size w' v xs ∧ wordsOf xs = progLs q) ∧ (4194304 < wp q → b = false)
set_option maxRecDepth 100000 in
set_option maxHeartbeats 16000000 in
theorem laid_any (lo hi : Nat) (w : World) (cs : List Value) (q : Prog) (hp : ProgC lo hi w cs q) (hh : hi ≤ w.heap.size) (hL : LaidS w) (hR : progR q = true) (hI : progI q) (hE : ∀ e ∈ q.externs, NumM.In e.n) :
    Calls Tryd.prog 22 #[.agg cs.toArray] w (LaidR w q) := by
  have hp0 := hp
  obtain ⟨u1, u2, u3, u4, rfl, k1, k2, k3, k4⟩ := hp
  obtain ⟨B1, c1, rfl⟩ := k1.form
  obtain ⟨B2, c2, rfl⟩ := k2.form
  obtain ⟨B3, c3, rfl⟩ := k3.form
  obtain ⟨B4, c4, rfl⟩ := k4.form
  have hwp : wp q ≤ 2147483648 := wp_le hR hI
  have hwl : wp q = wls (progLs q) := rfl
  have hNh : (headLs q).length ≤ wls (headLs q) := len_wls (heads_ne q)
  have hsp := prog_heads q
  have hws : wls (progLs q) = wls (headLs q) + wls (q.funcs.flatMap funcLs) := by rw [hsp, wls_app]
  have hNf : (q.funcs.flatMap funcLs).length ≤ wls (q.funcs.flatMap funcLs) := len_wls fun ws hw => prog_ne q ws (by rw [hsp]; exact List.mem_append_right _ hw)
  have hfs : ∀ f ∈ q.funcs, funcR f = true := by
    unfold progR allR at hR
    simp only [Bool.and_eq_true, List.all_eq_true] at hR
    exact hR.2.2.2.2
  obtain ⟨W, hW⟩ : ∃ W, ((w.alloc (.cells #[.bool q.ssa, .slice B1 q.classes.length c1, .slice B2 q.globals.length c2, .slice B3 q.externs.length c3, .slice B4 q.funcs.length c4] 27)).alloc (.cells #[.slice none 0 0] 74)).alloc (.cells #[i64 4194304] 3) = W := ⟨_, rfl⟩
  have ol : Own W (w.heap.size + 1) 74 [.slice none 0 0] := by
    rw [← hW]
    have := Own.made (w.alloc (.cells #[.bool q.ssa, .slice B1 q.classes.length c1, .slice B2 q.globals.length c2, .slice B3 q.externs.length c3, .slice B4 q.funcs.length c4] 27)) 74 [.slice none 0 0]
    rw [show (w.alloc (.cells #[.bool q.ssa, .slice B1 q.classes.length c1, .slice B2 q.globals.length c2, .slice B3 q.externs.length c3, .slice B4 q.funcs.length c4] 27)).heap.size = w.heap.size + 1 by simp] at this
    exact this.alloc _
  have op : Own W w.heap.size 27 [.bool q.ssa, .slice B1 q.classes.length c1, .slice B2 q.globals.length c2, .slice B3 q.externs.length c3, .slice B4 q.funcs.length c4] := by rw [← hW]; exact ((Own.made w 27 [.bool q.ssa, .slice B1 q.classes.length c1, .slice B2 q.globals.length c2, .slice B3 q.externs.length c3, .slice B4 q.funcs.length c4]).alloc _).alloc _
  have of : Own W (w.heap.size + 1 + 1) 3 [i64 4194304] := by
    rw [← hW]
    have := Own.made ((w.alloc (.cells #[.bool q.ssa, .slice B1 q.classes.length c1, .slice B2 q.globals.length c2, .slice B3 q.externs.length c3, .slice B4 q.funcs.length c4] 27)).alloc (.cells #[.slice none 0 0] 74)) 3 [i64 4194304]
    rw [show ((w.alloc (.cells #[.bool q.ssa, .slice B1 q.classes.length c1, .slice B2 q.globals.length c2, .slice B3 q.externs.length c3, .slice B4 q.funcs.length c4] 27)).alloc (.cells #[.slice none 0 0] 74)).heap.size = w.heap.size + 1 + 1 by simp] at this
    exact this
  have hb : Below w.heap.size w W := by rw [← hW]; exact (((Below.refl _ _).alloc (Nat.le_refl _) _).alloc (by simp) _).alloc (by simp; omega) _
  have hS : LayS w.heap.size (w.heap.size + 1) (w.heap.size + 1 + 1) W [] 4194304 := ⟨by omega, by omega, of, _, [], ol, OwnLins.nil _ _ _ _ _, rfl⟩
  obtain ⟨lb, hlb⟩ : ∃ lb, w.heap.size + 1 = lb := ⟨_, rfl⟩
  have hq := ProgC.move (Still.of_below (hb.mono hh)) hp0
  have QH := Lib.hid (layHeads_any lo hi W w.heap.size (w.heap.size + 1) (w.heap.size + 1 + 1) [] 4194304 _ q hq hh hE hS (by simp) (by omega) (by omega) (by omega) (by omega))
  have HW := Lib.hid hW
  have HS := Lib.hid (Laid.start hS (Below.refl _ _))
  have HO := Lib.hid op
  have HB := Lib.hid hb
  have HL := Lib.hid hL
  have HFS := Lib.hid hfs
  have HI := Lib.hid hI
  have K4 := Lib.hid k4
  have HSP := Lib.hid hsp
  have HWS := Lib.hid hws
  have HNF := Lib.hid hNf
  have HNH := Lib.hid hNh
  have HWP := Lib.hid hwp
  clear ol op of hb hS hW hlb hq hL hfs hI k1 k2 k3 k4 hsp hws hNf hNh hwp hp0 hE hR hwl
  go_enter Tryd.func22, Tryd.ntmps22
  go_wp2_with fail
  rw [HW.out]
  refine QH.out.mono ?_
  rintro e w1 hP
  obtain ⟨rfl, hP, hk1⟩ := HS.out.lines (T := []) (by simpa [wls] using hP)
  have HP1 := Lib.hid hP
  have HO1 := Lib.hid (hk1 _ _ _ HO.out (by decide) (by decide) (by decide))
  have g4 := HO1.out.cell 4
  simp only [List.getElem?_cons_succ, List.getElem?_cons_zero] at g4
  clear hP hk1 QH HS HO
  go_wp2_with fail
  clear g4
  go_loopw [18] (fun i wr => ∃ (k : Nat) (T : List (List Wd)), k ≤ q.funcs.length ∧ i = .int .i64 k ∧ Hid (wls T ≤ wls (headLs q) + wls ((q.funcs.take k).flatMap funcLs) ∧ T.length ≤ (headLs q).length + ((q.funcs.take k).flatMap funcLs).length ∧ (T = headLs q ++ (q.funcs.take k).flatMap funcLs ∨ (4194304 : Int) - (wls T : Nat) < 0)) ∧ Hid (Laid w.heap.size (w.heap.size + 1) (w.heap.size + 1 + 1) W [] 4194304 T wr)) (fun i _ => q.funcs.length - (intOf i).toNat)
  case atStart => exact ⟨0, [] ++ headLs q, Nat.zero_le _, rfl, Lib.hid ⟨by simp, by simp, .inl (by simp)⟩, HP1⟩
  case round =>
  obtain ⟨k, T, hk, rfl, HT, HP⟩ := hrel
  by_cases hlt : k < q.funcs.length
  · obtain ⟨f, hf⟩ : ∃ y, q.funcs[k]? = some y := ⟨_, List.getElem?_eq_getElem hlt⟩
    obtain ⟨b3, f3, hn3, hm3, a3, j3⟩ := K4.out.get
    obtain ⟨rfl, _, hb3⟩ := a3 (by omega)
    obtain ⟨cs3, _, q3, hu⟩ := j3 k _ hf
    have hmem := List.mem_of_getElem? hf
    have hbw : Below w.heap.size w wr := HB.out.trans HP.out.2.1
    have hu3 := hu
    have hpre := flat_wls funcLs q.funcs (k + 1)
    have hpl := flat_len funcLs q.funcs (k + 1)
    have hw1 := HT.out.1
    have hn1 := HT.out.2.1
    have e1 : (q.funcs.take (k + 1)).flatMap funcLs = (q.funcs.take k).flatMap funcLs ++ funcLs f := by rw [LinesM.take_next hf, List.flatMap_append]; simp
    have hwf : wls ((q.funcs.take (k + 1)).flatMap funcLs) = wls ((q.funcs.take k).flatMap funcLs) + wls (funcLs f) := by rw [e1, wls_app]
    have hnf : ((q.funcs.take (k + 1)).flatMap funcLs).length = ((q.funcs.take k).flatMap funcLs).length + (funcLs f).length := by rw [e1, List.length_append]
    have c1 := HWS.out
    have c2 := HNF.out
    have c3 := HNH.out
    have c4 : wls (progLs q) ≤ 2147483648 := HWP.out
    obtain ⟨x1, x2, x3, e1', y1, y2, y3⟩ := hu
    subst e1'
    obtain ⟨D1, d1, rfl⟩ := y1.form
    obtain ⟨D2, d2, rfl⟩ := y2.form
    obtain ⟨D3, d3, rfl⟩ := y3.form
    obtain ⟨m0, m1, m2, m3, m4⟩ := at5 (cells_later q3 hbw (by omega))
    obtain ⟨W2, hW2⟩ : ∃ W2, wr.alloc (.cells #[str f.name, str f.result, .slice D1 f.params.length d1, .slice D2 f.vars.length d2, .slice D3 f.blocks.length d3] 37) = W2 := ⟨_, rfl⟩
    have hbx : Below wr.heap.size wr W2 := by rw [← hW2]; exact (Below.refl _ _).alloc (Nat.le_refl _) _
    have hbw2 : Below w.heap.size w W2 := hbw.trans (hbx.mono HP.out.size)
    have hl2 := HP.out.below hbx
    have hu2 := FuncC.move (Still.of_below (hbw2.mono hh)) hu3
    have QF := Lib.hid (layFunc_any lo hi W2 w.heap.size (w.heap.size + 1) (w.heap.size + 1 + 1) ([] ++ T) (4194304 - (wls T : Nat)) _ f hu2 hh (HL.out.below hbw2 (Nat.le_refl _)) HL.out.lt (HFS.out f hmem) (HI.out f hmem) hl2.1 (by simp only [List.nil_append]; omega) (by omega) (by omega) (by omega))
    have HL2 := Lib.hid hl2
    have HW2 := Lib.hid hW2
    clear hbx hbw2 hl2 hW2 hu3
    have HE1 := Lib.hid e1
    have HWF := Lib.hid hwf
    have HNF1 := Lib.hid hnf
    clear hf q3 j3 a3 hu2 y1 y2 y3 hbw hmem hpre hpl hw1 hn1 e1 hwf hnf c1 c2 c3 c4
    go_wp2_with fail
    rw [HW2.out]
    refine QF.out.mono ?_
    rintro e w5 ⟨rfl, T2, g1, g2, g3, g4⟩
    have hl5 := (HL2.out.lines (T2 := T2) (e := .returned (.tuple #[])) ⟨rfl, g3.1, g3.2.1, g3.2.2⟩).2.1
    have HL5 := Lib.hid hl5
    have HT5 : Hid (wls (T ++ T2) ≤ wls (headLs q) + wls ((q.funcs.take (k + 1)).flatMap funcLs) ∧ (T ++ T2).length ≤ (headLs q).length + ((q.funcs.take (k + 1)).flatMap funcLs).length ∧ (T ++ T2 = headLs q ++ (q.funcs.take (k + 1)).flatMap funcLs ∨ (4194304 : Int) - (wls (T ++ T2) : Nat) < 0)) := by
      obtain ⟨h1, h2, h3⟩ := HT.out
      refine Lib.hid ⟨by rw [wls_app, HWF.out]; omega, by rw [List.length_append, HNF1.out]; omega, ?_⟩
      rcases h3 with h3 | h3
      · rcases g4 with g4 | g4
        · left
          rw [HE1.out, h3, g4, List.append_assoc]
        · right
          rw [wls_app]
          omega
      · right
        rw [wls_app]
        omega
    clear g1 g2 g3 g4 hl5
    go_wp2_with fail
    go_roundw
    case rel => exact ⟨k + 1, T ++ T2, by omega, by go_num, HT5, HL5⟩
    case measure => simp [intOf]; omega
  · have hkn : q.funcs.take k = q.funcs := List.take_of_length_le (by omega)
    obtain ⟨ha, hb', of2, u, xs, hL2, ol2, hwo⟩ := HP.out.1
    have HOF := Lib.hid of2
    have HOL := Lib.hid ol2
    have HWO := Lib.hid hwo
    have r0 := hL2.cell 0
    have r1 := of2.cell 0
    simp only [List.getElem?_cons_zero] at r0 r1
    have QF := full_any wr.drew _ _ of2.drew
    have hd1 : wp q = wls (headLs q) + wls (q.funcs.flatMap funcLs) := HWS.out
    rw [hkn] at HT
    have HBW := Lib.hid (HB.out.trans HP.out.2.1)
    clear ha hb' of2 hwo hL2 hkn
    by_cases hful : (4194304 : Int) - (wls T : Nat) < 0
    · rw [decide_eq_true hful] at QF
      have QF2 := Lib.hid QF
      have hbig : 4194304 < wp q := by have := HT.out.1; omega
      clear QF hful r1 ol2
      go_wp2_with fail
      go_region_law (first | (go_simp; (refine QF2.out.mono ?_); rintro e w5 ⟨rfl, hw5⟩; obtain rfl := hw5))
      all_goals
        go_wp2_with fail
        go_ret2
        exact ⟨HBW.out.drew, _, _, rfl, fun h => absurd h (by omega), fun _ => rfl⟩
    · rw [decide_eq_false hful] at QF
      have QF2 := Lib.hid QF
      have hT : T = progLs q := by
        rcases HT.out.2.2 with h | h
        · rw [h, ← HSP.out]
        · exact absurd h hful
      have hsml : ¬ 4194304 < wp q := by
        have e : wp q = wls T := by rw [hT]; rfl
        omega
      have HTT := Lib.hid hT
      have HSM := Lib.hid hsml
      clear QF hful r1 ol2 hT hsml
      go_wp2_with fail
      go_region_law (first | (go_simp; (refine QF2.out.mono ?_); rintro e w5 ⟨rfl, hw5⟩; obtain rfl := hw5))
      all_goals
        go_wp2_with fail
        go_ret2
        exact ⟨HBW.out.drew, _, _, rfl, fun _ => ⟨rfl, xs, HOL.out, by rw [HWO.out, ← HTT.out, List.nil_append]⟩, fun h => absurd h HSM.out⟩

set_option maxRecDepth 100000 in
set_option maxHeartbeats 16000000 in
theorem text_any (lo hi : Nat) (w : World) (cs : List Value) (q : Prog) (hp : ProgC lo hi w cs q) (hh : hi ≤ w.heap.size) (hL : LaidS w) (hB : ∀ f ∈ q.funcs, Bd f) (hI : progI q) (hE : ∀ e ∈ q.externs, NumM.In e.n) :
    Calls Tryd.prog 8 #[.agg cs.toArray] w fun e w' => e = .returned (.tuple #[str (textV q).1, i64 (textV q).2]) ∧ Below w.heap.size w w' := by
  have hp0 := hp
  obtain ⟨u1, u2, u3, u4, rfl, k1, k2, k3, k4⟩ := hp
  obtain ⟨B1, c1, rfl⟩ := k1.form
  obtain ⟨B2, c2, rfl⟩ := k2.form
  obtain ⟨B3, c3, rfl⟩ := k3.form
  obtain ⟨B4, c4, rfl⟩ := k4.form
  obtain ⟨W, hW⟩ : ∃ W, w.alloc (.cells #[.bool q.ssa, .slice B1 q.classes.length c1, .slice B2 q.globals.length c2, .slice B3 q.externs.length c3, .slice B4 q.funcs.length c4] 27) = W := ⟨_, rfl⟩
  obtain ⟨oW, bW, zW⟩ := boxed1 (c := [.bool q.ssa, .slice B1 q.classes.length c1, .slice B2 q.globals.length c2, .slice B3 q.externs.length c3, .slice B4 q.funcs.length c4]) hW
  have HW := Lib.hid hW
  have HO := Lib.hid oW
  have HBW := Lib.hid bW
  have hLW := hL.below bW (Nat.le_refl _)
  have hpW := ProgC.move (Still.of_below (bW.mono hh)) hp0
  have hhW : hi ≤ W.heap.size := by omega
  have HZ : Hid (w.heap.size < W.heap.size) := Lib.hid (by omega)
  clear hW oW bW
  obtain ⟨d, hd⟩ : ∃ d, progR q = d := ⟨_, rfl⟩
  have QR := prog_any lo hi W _ q hpW hhW hLW hB
  rw [hd] at QR
  have QR2 := Lib.hid QR
  clear QR
  cases d with
  | false =>
    have hv : textV q = ([], 1) := by unfold textV; rw [hd]; rfl
    rw [hv]
    have HD := Lib.hid hd
    clear hd hv hp0 hpW hLW k1 k2 k3 k4 hL hI hE hB
    go_enter Tryd.func8, Tryd.ntmps8
    go_wp2_with fail
    rw [HW.out]
    refine QR2.out.mono ?_
    rintro e w1 ⟨rfl, hb⟩
    have HB1 := Lib.hid hb
    clear hb
    go_wp2_with fail
    go_ret2
    exact ⟨rfl, HBW.out.trans (HB1.out.mono HBW.out.size)⟩
  | true =>
    have QL := Lib.hid fun w1 (hb : Below W.heap.size W w1) => laid_any lo hi w1 _ q (ProgC.move (Still.of_below (hb.mono hhW)) hpW) (Nat.le_trans hhW hb.size) (hLW.below hb (Nat.le_refl _)) hd hI hE
    have hwp := wp_le hd hI
    have hjw := join_wp q
    by_cases hbig : 4194304 < wp q
    · have hv : textV q = ([], 2) := by unfold textV; rw [hd, if_pos rfl, if_neg (by omega)]
      rw [hv]
      have HD := Lib.hid hd
      have HBG := Lib.hid hbig
      clear hd hv hp0 hpW hLW k1 k2 k3 k4 hL hI hE hB hwp hjw hbig
      go_enter Tryd.func8, Tryd.ntmps8
      go_wp2_with fail
      rw [HW.out]
      refine QR2.out.mono ?_
      rintro e w1 ⟨rfl, hb⟩
      have HB1 := Lib.hid hb
      have o1 := HO.out.below hb HZ.out
      have g0 := o1.cell 0
      have g1 := o1.cell 1
      have g2 := o1.cell 2
      have g3 := o1.cell 3
      have g4 := o1.cell 4
      simp only [List.getElem?_cons_succ, List.getElem?_cons_zero] at g0 g1 g2 g3 g4
      clear hb o1
      go_wp2_with fail
      refine (QL.out w1 HB1.out).mono ?_
      rintro e w2 ⟨hb2, v, b, rfl, _, h2⟩
      obtain rfl := h2 HBG.out
      have HB2 := Lib.hid (HBW.out.trans ((HB1.out.trans (hb2.mono HB1.out.size)).mono HBW.out.size))
      clear h2 hb2
      go_wp2_with fail
      go_ret2
      exact ⟨rfl, HB2.out⟩
    · have hv : textV q = (joinV (progLs q), 0) := by unfold textV; rw [hd, if_pos rfl, if_pos (by omega)]
      rw [hv]
      have HD := Lib.hid hd
      have HBG := Lib.hid hbig
      have HWP := Lib.hid hwp
      have HJW := Lib.hid hjw
      have hlw := len_wp q
      have HLW := Lib.hid hlw
      clear hd hv hp0 hpW hLW k1 k2 k3 k4 hL hI hE hB hwp hjw hbig hlw
      go_enter Tryd.func8, Tryd.ntmps8
      go_wp2_with fail
      rw [HW.out]
      refine QR2.out.mono ?_
      rintro e w1 ⟨rfl, hb⟩
      have HB1 := Lib.hid hb
      have o1 := HO.out.below hb HZ.out
      have g0 := o1.cell 0
      have g1 := o1.cell 1
      have g2 := o1.cell 2
      have g3 := o1.cell 3
      have g4 := o1.cell 4
      simp only [List.getElem?_cons_succ, List.getElem?_cons_zero] at g0 g1 g2 g3 g4
      clear hb o1
      go_wp2_with fail
      refine (QL.out w1 HB1.out).mono ?_
      rintro e w2 ⟨hb2, v, b, rfl, h2, _⟩
      obtain ⟨rfl, xs, ho, hx⟩ := h2 (by have := HBG.out; omega)
      have HB2 := Lib.hid (HBW.out.trans ((HB1.out.trans (hb2.mono HB1.out.size)).mono HBW.out.size))
      have hxl : xs.length = (progLs q).length := by rw [← hx]; simp [wordsOf]
      have QJ := join_any w1.heap.size w2.heap.size w2 v xs (ho.lins (by have := HLW.out; have := HWP.out; omega)) (Nat.le_refl _) (by rw [hx, HJW.out]; have := HWP.out; omega)
      rw [hx] at QJ
      have QJ2 := Lib.hid QJ
      clear h2 hb2 ho hx hxl QJ
      go_wp2_with fail
      refine QJ2.out.mono ?_
      rintro e w3 ⟨rfl, hb3⟩
      have HB3 := Lib.hid (HB2.out.trans (hb3.mono HB2.out.size))
      clear hb3
      go_wp2_with fail
      go_ret2
      exact ⟨rfl, HB3.out⟩
end Go.Proofs.YtdgmdpphimenjaaDoor.Sh6

/-
  The statements of layer 6: what they share.
-/
namespace Go.Proofs.YtdgmdpphimenjaaDoor.L06
open Go.RowKit Api Mem

/-- A row of one, just laid. -/
theorem row_one_own {α : Type} {hi size : Nat} {w : World} {g : Nat} {t : TypeId} {cs : List Value} {P : List Value → α → Prop} {x : α} (o : Own w g t cs) (hg : g < hi) (hs : cs.length = size) (hp : P cs x) : Row 0 hi w size P (.slice (some ⟨g, 0, none⟩) 1 1) [x] := by
  refine ⟨_, 1, 1, g, 0, rfl, rfl, ⟨by omega, by omega⟩, fun _ => ⟨rfl, Nat.zero_le _, hg⟩, fun i y hy => ?_⟩
  match i, hy with
  | 0, hy =>
    obtain rfl : x = y := by simpa using hy
    exact ⟨cs, hs, fun j u hj => by rw [show 0 + 0 * size + j = j by omega]; exact (o.cell j).trans hj, hp⟩
  | i + 1, hy => simp at hy
theorem row_zero {α : Type} {hi size : Nat} {w : World} {P : List Value → α → Prop} : Row 0 hi w size P (.slice none 0 0) ([] : List α) := ⟨none, 0, 0, 0, 0, rfl, rfl, by omega, by omega, fun i x h => by simp at h⟩
theorem made_as {w : World} {g : Nat} (hg : g = w.heap.size) (t : TypeId) (cs : List Value) : Own (w.alloc (.cells cs.toArray t)) g t cs := hg ▸ Own.made w t cs
def exP (t : Api.Term) : Prog := ⟨false, [], [], [], [⟨[102], [105, 110, 116], [], [], [⟨[98], [], [], t⟩]⟩]⟩
set_option maxRecDepth 100000 in
set_option maxHeartbeats 8000000 in
theorem example_any (w : World) (k ak an n : Int) (s : Wd) :
    Calls Tryd.prog 13 #[.agg #[i64 k, i64 ak, str s, i64 an, .slice none 0 0, i64 n]] w fun e w' => ∃ cs, e = .returned (.agg cs.toArray) ∧ ProgC 0 w'.heap.size w' cs (exP ⟨k, ⟨ak, s, an⟩, [], n⟩) ∧ Below w.heap.size w w' := by
  go_enter Tryd.func13, Tryd.ntmps13
  go_wp2_with fail
  obtain ⟨c1, h1⟩ : ∃ c : List Value, c = [i64 k, i64 ak, str s, i64 an, .slice none 0 0, i64 n] := ⟨_, rfl⟩
  obtain ⟨c2, h2⟩ : ∃ c : List Value, c = [.bool false, .slice none 0 0, .slice none 0 0, .slice none 0 0, .slice (some ⟨w.heap.size + 1 + 1 + 1, 0, none⟩) 1 1] := ⟨_, rfl⟩
  obtain ⟨c3, h3⟩ : ∃ c : List Value, c = [str [98], .slice none 0 0, .slice none 0 0, i64 k, i64 ak, str s, i64 an, .slice none 0 0, i64 n] := ⟨_, rfl⟩
  obtain ⟨c4, h4⟩ : ∃ c : List Value, c = [str [102], str [105, 110, 116], .slice none 0 0, .slice none 0 0, .slice (some ⟨w.heap.size + 1 + 1, 0, none⟩) 1 1] := ⟨_, rfl⟩
  obtain ⟨W, hW⟩ : ∃ W, (((w.alloc (.cells c1.toArray 46)).alloc (.cells c2.toArray 27)).alloc (.cells c3.toArray 60)).alloc (.cells c4.toArray 37) = W := ⟨_, rfl⟩
  have o3 : Own W (w.heap.size + 1 + 1) 60 c3 := by rw [← hW]; exact (made_as (by simp) _ _).alloc _
  have o4 : Own W (w.heap.size + 1 + 1 + 1) 37 c4 := by rw [← hW]; exact made_as (by simp) _ _
  have hz : W.heap.size = w.heap.size + 4 := by rw [← hW]; simp
  have hb : Below w.heap.size w W := by rw [← hW]; exact ((((Below.refl _ _).alloc (Nat.le_refl _) _).alloc (by simp) _).alloc (by simp; omega) _).alloc (by simp; omega) _
  have hp : ProgC 0 W.heap.size W c2 (exP ⟨k, ⟨ak, s, an⟩, [], n⟩) := by
    refine ⟨_, _, _, _, h2, row_zero, row_zero, row_zero, row_one_own o4 (by omega) (by rw [h4]; rfl) ⟨_, _, _, h4, row_zero, row_zero, row_one_own o3 (by omega) (by rw [h3]; rfl) ⟨_, _, _, h3, row_zero, row_zero, _, rfl, row_zero⟩⟩⟩
  refine bodyPost_ret (v := .agg #[.bool false, .slice none 0 0, .slice none 0 0, .slice none 0 0, .slice (some ⟨w.heap.size + 1 + 1 + 1, 0, none⟩) 1 1]) (by rw [Rd5.results_cell rfl]; go_simp) rfl ?_
  subst h1
  subst h3
  subst h4
  have h2' := h2
  subst h2
  rw [hW]
  exact ⟨_, rfl, hp, hb⟩
theorem text_ok : Rd5.textV (exP ⟨3, ⟨2, [], 5⟩, [], 0⟩) = ([102, 117, 110, 99, 32, 102, 32, 105, 110, 116, 10, 98, 108, 111, 99, 107, 32, 98, 10, 114, 101, 116, 32, 53, 10], 0) := by kernel_rfl
theorem text_bad : Rd5.textV (exP ⟨0, ⟨0, [], 0⟩, [], 0⟩) = ([], 1) := by kernel_rfl
theorem ex_bd (t : Api.Term) : ∀ f ∈ (exP t).funcs, Sh6.Bd f := by
  intro f hf
  simp only [exP, List.mem_singleton] at hf
  subst hf
  unfold Sh6.Bd
  simp
theorem ex_in (k ak an n : Int) (s : Wd) (h1 : NumM.In an) (h2 : NumM.In n) : Rd5.progI (exP ⟨k, ⟨ak, s, an⟩, [], n⟩) := by
  intro f hf b hb
  simp only [exP, List.mem_singleton] at hf
  subst hf
  simp only [List.mem_singleton] at hb
  subst hb
  exact ⟨(fun _ h => by cases h), (fun _ h => by cases h), h1, h2⟩
set_option maxRecDepth 100000 in
set_option maxHeartbeats 8000000 in
theorem awake_any (w : World) (hL : Rd5.LaidS w) : Calls Tryd.prog 5 #[] w fun e w' => e = .returned (.bool true) ∧ Below w.heap.size w w' := by
  have HL := Lib.hid hL
  have E1 := Lib.hid (example_any w 3 2 5 0 [])
  have E2 := Lib.hid fun w' => example_any w' 0 0 0 0 []
  clear hL
  go_enter Tryd.func5, Tryd.ntmps5
  go_wp2_with fail
  refine E1.out.mono ?_
  rintro e w1 ⟨cs1, rfl, hp1, hb1⟩
  have T1 := Sh6.text_any 0 w1.heap.size w1 cs1 _ hp1 (Nat.le_refl _) (HL.out.below hb1 (Nat.le_refl _)) (ex_bd _) (ex_in _ _ _ _ _ (by unfold NumM.In; omega) (by unfold NumM.In; omega)) (fun _ h => by cases h)
  rw [text_ok] at T1
  have T2 := Lib.hid T1
  have HB1 := Lib.hid hb1
  clear hp1 hb1 T1
  go_wp2_with fail
  refine T2.out.mono ?_
  rintro e w2 ⟨rfl, hb2⟩
  have HB2 := Lib.hid (HB1.out.trans (hb2.mono HB1.out.size))
  clear hb2
  go_wp2_with fail
  refine (E2.out _).mono ?_
  rintro e w3 ⟨cs3, rfl, hp3, hb3⟩
  have hb3' := HB2.out.trans (hb3.mono HB2.out.size)
  have T3 := Sh6.text_any 0 w3.heap.size w3 cs3 _ hp3 (Nat.le_refl _) (HL.out.below hb3' (Nat.le_refl _)) (ex_bd _) (ex_in _ _ _ _ _ (by unfold NumM.In; omega) (by unfold NumM.In; omega)) (fun _ h => by cases h)
  rw [text_bad] at T3
  have T4 := Lib.hid T3
  have HB3 := Lib.hid hb3'
  clear hp3 hb3 hb3' T3
  go_wp2_with fail
  refine T4.out.mono ?_
  rintro e w4 ⟨rfl, hb4⟩
  have HB4 := Lib.hid (HB3.out.trans (hb4.mono HB3.out.size))
  clear hb4
  go_wp2_with fail
  go_ret
  exact ⟨rfl, HB4.out⟩
end Go.Proofs.YtdgmdpphimenjaaDoor.L06

/-
  Programs as arguments: what their reach says of their texts, numbers and sizes.
-/
namespace Go.Proofs.YtdgmdpphimenjaaDoor.Cv6
open Go.RowKit Api Mem Few6 OpenP

theorem instr_s {x : Instr} (h : instrG x) : instrS x := ⟨h.1.2, (fun a ha => (h.2.1 a ha).2), (fun f hf => ⟨(h.2.2.1 f hf).1.1, (h.2.2.1 f hf).1.2, fun b hb => ⟨((h.2.2.1 f hf).2.2 b hb).1, (((h.2.2.1 f hf).2.2 b hb).2).2⟩⟩), fun o ho => ⟨(h.2.2.2 o ho).1, fun a ha => ((h.2.2.2 o ho).2 a ha).2⟩⟩
theorem block_s {b : Api.Block} (h : blockG b) : blockS b := ⟨⟨h.1, h.2.2.2.2.1.2⟩, h.2.2.2.2.2.1, (fun p hp => ⟨(h.2.1 p hp).1, fun b hb => ⟨((h.2.1 p hp).2 b hb).1, (((h.2.1 p hp).2 b hb).2).2⟩⟩), fun i hi => instr_s (h.2.2.1 i hi)⟩
theorem func_s {f : Api.Func} (h : funcG f) : funcS f := ⟨h.1, h.2.1, h.2.2.1, fun b hb => block_s (h.2.2.2 b hb)⟩
theorem prog_s {p : Prog} (h : progG p) : progS p := ⟨h.1, h.2.1, (fun e he => (h.2.2.1 e he).1), fun f hf => func_s (h.2.2.2 f hf)⟩
theorem instr_i {x : Instr} (h : instrG x) : Rd5.instrI x := ⟨(fun a ha => (h.2.1 a ha).1.2), (fun f hf b hb => (((h.2.2.1 f hf).2.2 b hb).2).1.2), fun o ho a ha => ((h.2.2.2 o ho).2 a ha).1.2⟩
theorem prog_i {p : Prog} (h : progG p) : Rd5.progI p := fun f hf b hb =>
  have g := (h.2.2.2 f hf).2.2.2 b hb
  ⟨(fun q hq b hb => (((g.2.1 q hq).2 b hb).2).1.2), (fun i hi => instr_i (g.2.2.1 i hi)), g.2.2.2.2.1.1.2, g.2.2.2.2.2.2⟩
theorem prog_e {p : Prog} (h : progG p) : ∀ e ∈ p.externs, NumM.In e.n := fun e he => (h.2.2.1 e he).2
theorem bd_few {p : Prog} (h : fewB 20000 p = true) : ∀ f ∈ p.funcs, Sh6.Bd f := by
  unfold fewB at h
  simp only [Bool.and_eq_true, decide_eq_true_eq] at h
  obtain ⟨_, _, _, h4⟩ := h
  intro f hf
  have h5 := sum_mem cFunc hf
  unfold cProg at h4
  have h6 := sum_len cBlock f.blocks (fun x => by unfold cBlock; omega)
  have h7 : sumOf cBlock f.blocks ≤ cFunc f := by unfold cFunc; omega
  refine ⟨by omega, fun b hb => ?_⟩
  have h8 := sum_mem cBlock hb
  have h9 := sum_len cPhi b.phis (fun x => by unfold cPhi; omega)
  have h10 := sum_len cInstr b.code (fun x => by unfold cInstr; omega)
  have h11 : sumOf cPhi b.phis + sumOf cInstr b.code ≤ cBlock b := by unfold cBlock; omega
  omega
theorem bd_right {p : Prog} (h : Rd5.progR p = true) : ∀ f ∈ p.funcs, Sh6.Bd f := by
  unfold Rd5.progR Rd5.allR at h
  simp only [Bool.and_eq_true, decide_eq_true_eq, List.all_eq_true] at h
  intro f hf
  have := h.2.2.2.2 f hf
  unfold Rd5.funcR Rd5.allR at this
  simp only [Bool.and_eq_true, decide_eq_true_eq, List.all_eq_true] at this
  obtain ⟨_, _, _, _, _, h5, h6⟩ := this
  refine ⟨by omega, fun b hb => ?_⟩
  have := h6 b hb
  unfold Rd5.blockR Rd5.allR at this
  simp only [Bool.and_eq_true, decide_eq_true_eq, List.all_eq_true] at this
  omega
theorem ext_right {p : Prog} (h : Rd5.progR p = true) : ∀ e ∈ p.externs, NumM.In e.n := by
  unfold Rd5.progR Rd5.allR at h
  simp only [Bool.and_eq_true, decide_eq_true_eq, List.all_eq_true] at h
  intro e he
  have := h.2.2.1.2 e he
  unfold Rd5.externR at this
  simp only [Bool.and_eq_true, decide_eq_true_eq] at this
  unfold NumM.In
  omega
end Go.Proofs.YtdgmdpphimenjaaDoor.Cv6

/-
  What the row's condition gives the walks: package syntax's words lie where they are laid.
-/
namespace Go.Proofs.YtdgmdpphimenjaaDoor.Rd5
open Go.RowKit Api Syn WordM

theorem swords_named : Tryd.prog.globalNamed "lateen/syntax.words" = some 1 := by kernel_rfl
theorem swords_type : (Tryd.prog.globals[1]?).map (·.type) = some 154 := by kernel_rfl
theorem swords_cells : Tryd.prog.cellsOf 9 = 1 := by kernel_rfl
/-- The words' datum. -/
theorem swords_datum : (Rows.laid_lateen_syntax_words : DataW Unit) = .agg (opWords.map fun x => .lit (.string x)) := rfl

theorem laid_of {W : World} {L : List (String × DataW Unit)} (h : laidMet Tryd.prog L W) (hm : ("lateen/syntax.words", (Rows.laid_lateen_syntax_words : DataW Unit)) ∈ L) : LaidS W := by
  have hr := Lib.laidMet.reads h hm
  obtain ⟨g, t, cs, f, p, hg, ht, hv, hd⟩ := hr
  obtain rfl := Option.some.inj (swords_named.symm.trans hg)
  obtain rfl := Option.some.inj (swords_type.symm.trans ht)
  rw [swords_datum] at hd
  intro i x hx
  have hi : i < 35 := (List.getElem?_eq_some_iff.1 hx).1
  obtain ⟨f2, d, q, hdi, he⟩ := Lib.array_elem Tryd.underlying154 hd i hi
  rw [List.getElem?_map, hx] at hdi
  obtain rfl := Option.some.inj hdi
  obtain ⟨s, hs, hx2, _⟩ := DataW.trod_string Tryd.underlying9 he
  have e1 : s.data.toList = x := by
    have := congrArg Prod.fst hx2
    simpa using this.symm
  have hc := World.var?_cell hg hv i
  rw [hc]
  rw [swords_cells, Nat.mul_one] at hs
  have e2 : cs.toList[i]? = some (.string s) := by
    have := congrArg (·[0]?) hs
    simpa using this
  rw [Array.getElem?_toList] at e2
  rw [e2, ← e1]
/-- The condition of the laws that lay package syntax's words alone. -/
theorem laid_swords {W : World} (h : laidMetH Tryd.prog [("lateen/syntax.words", Rows.laid_lateen_syntax_words)] W) : LaidS W := by
  rw [MakeChecks.laidMetH_plain _ _ _ (by kernel_rfl)] at h
  exact laid_of h (.head _)
/-- .. of the law that lays the document's words as well. -/
theorem laid_swords2 {W : World} (h : laidMetH Tryd.prog [("lateen/lateenref05.words", Rows.laid_lateen_lateenref05_words), ("lateen/syntax.words", Rows.laid_lateen_syntax_words)] W) : LaidS W := by
  rw [MakeChecks.laidMetH_plain _ _ _ (by kernel_rfl)] at h
  exact laid_of h (.tail _ (.head _))
end Go.Proofs.YtdgmdpphimenjaaDoor.Rd5
