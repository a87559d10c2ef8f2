/-
  The document's Few (layer 6): an instruction.
-/
import Derived.Test.YtikfncgdjnljiaaDoorFew
import Derived.Test.YtikfncgdjnljiaaDoorProg
import Derived.Test.YtikfncgdjnljiaaDoorMem
import Derived.Test.YtikfncgdjnljiaaDoorPlainS
import Derived.Lib.Hide
import Derived.Lib.Walk
import Derived.Deep.QuietTactic
import Derived.BigQuiet
import Derived.StillTailTactics
namespace Go.Proofs.YtikfncgdjnljiaaDoor.Few6
open Go.RowKit Api Mem


theorem boxF {w W : World} {t : TypeId} {cs : List Value} (h : w.alloc (.cells cs.toArray t) = W) : Own W w.heap.size t cs ∧ Below w.heap.size w W ∧ W.heap.size = w.heap.size + 1 := by
  subst h
  exact ⟨Own.made w t cs, (Below.refl _ _).alloc (Nat.le_refl _) _, by simp⟩
theorem holdF {w : World} {g : Nat} {t : TypeId} {cs : List Value} (o : Own w g t cs) (i : Nat) {u : Value} (h : cs[i]? = some u) : w.cell? ⟨g, i, none⟩ = some u := (o.cell i).trans h
def frameS (f : Api.Frame) : Prop := Sh f.func ∧ Sh f.block ∧ ∀ b ∈ f.vars, Sh b.name ∧ Sh b.a.s
def virtS (v : Virt) : Prop := Sh v.cls ∧ ∀ a ∈ v.vals, Sh a.s
def instrS (x : Instr) : Prop := (Sh x.dst ∧ Sh x.name) ∧ (∀ a ∈ x.args, Sh a.s) ∧ (∀ f ∈ x.frames, frameS f) ∧ ∀ o ∈ x.objs, virtS o
abbrev B1 : Nat := 281475061596160 + 1073741824

set_option maxRecDepth 100000 in
set_option maxHeartbeats 16000000 in
theorem cntInstr_any (lo hi : Nat) (w : World) (cs : List Value) (x : Instr) (hx : InstrC lo hi w cs x) (hh : hi ≤ w.heap.size) (most : Nat) (hm : most ≤ 1073741824) (hG : instrS x) :
    Calls Tryd.prog 89 #[.agg cs.toArray, i64 most] w fun e w' => ∃ n : Nat, e = .returned (i64 n) ∧ Cnt B1 most (cInstr x) n ∧ Below w.heap.size w w' := by
  obtain ⟨u1, u2, u3, rfl, ka, kf, ko⟩ := hx
  obtain ⟨op, dst, nm, args, frames, objs⟩ := x
  simp only at ka kf ko hG
  obtain ⟨⟨g1, g2⟩, g3, g4, g5⟩ := hG
  simp only at g1 g2 g3 g4 g5
  obtain ⟨A1, k1, rfl⟩ := ka.form
  obtain ⟨A2, k2, rfl⟩ := kf.form
  obtain ⟨A3, k3, rfl⟩ := ko.form
  obtain ⟨W, hW⟩ : ∃ W, w.alloc (.cells #[i64 op, str dst, str nm, .slice A1 args.length k1, .slice A2 frames.length k2, .slice A3 objs.length k3] 59) = W := ⟨_, rfl⟩
  obtain ⟨o1, b1, z1⟩ := boxF (cs := [i64 op, str dst, str nm, .slice A1 args.length k1, .slice A2 frames.length k2, .slice A3 objs.length k3]) hW
  have kA := Args.move (Still.of_below (b1.mono hh)) ka
  have kF := Frames.move (Still.of_below (b1.mono hh)) kf
  have kO := Virts.move (Still.of_below (b1.mono hh)) ko
  have lF := kF.get
  have lO := kO.get
  have HO := Lib.hid o1
  have HB := Lib.hid b1
  have HW := Lib.hid hW
  have QA := Lib.hid (cntArgs_any lo hi W _ args kA most hm g3)
  have KF := Lib.hid kF
  have KO := Lib.hid kO
  have G4 := Lib.hid g4
  have G5 := Lib.hid g5
  have hlf : frames.length ≤ 4611686018427387903 := by obtain ⟨_, _, _, h, _⟩ := lF; exact h
  have hlo : objs.length ≤ 4611686018427387903 := by obtain ⟨_, _, _, h, _⟩ := lO; exact h
  clear o1 b1 hW ka kf ko kA kF kO g4 g5 g3 lF lO
  by_cases hb1 : most < frames.length
  · have e1 : decide ((most : Int) < (frames.length : Int)) = true := decide_eq_true (by omega)
    go_enter Tryd.func89, Tryd.ntmps89
    go_wp2
    go_ret
    exact ⟨most + 1, by go_num, cnt_more (by unfold cInstr; simp only; omega) hm (by decide), by rw [HW.out]; exact HB.out⟩
  by_cases hb2 : most < objs.length
  · have e1 : decide ((most : Int) < (frames.length : Int)) = false := decide_eq_false (by omega)
    have e2 : decide ((most : Int) < (objs.length : Int)) = true := decide_eq_true (by omega)
    go_enter Tryd.func89, Tryd.ntmps89
    go_wp2
    go_ret
    exact ⟨most + 1, by go_num, cnt_more (by unfold cInstr; simp only; omega) hm (by decide), by rw [HW.out]; exact HB.out⟩
  have e1 : decide ((most : Int) < (frames.length : Int)) = false := decide_eq_false (by omega)
  have e2 : decide ((most : Int) < (objs.length : Int)) = false := decide_eq_false (by omega)
  obtain ⟨S0, hS0⟩ : ∃ S0, 1 + dst.length + frames.length + objs.length + nm.length + cArgs args = S0 := ⟨_, rfl⟩
  have hs1 : Cnt B1 most (1 + dst.length + frames.length + objs.length) (1 + dst.length + frames.length + objs.length) := cnt_start (by unfold B1; omega)
  have HS0 := Lib.hid hS0
  clear hS0
  by_cases hc1 : 1 + dst.length + frames.length + objs.length ≤ most
  · have hs2 := cnt_add hs1 hc1 (a := nm.length) (by omega) hm (by decide)
    by_cases hc2 : 1 + dst.length + frames.length + objs.length + nm.length ≤ most
    · have HS2 := Lib.hid hs2
      clear hs1 hs2
      go_enter Tryd.func89, Tryd.ntmps89
      go_wp2_with fail
      rw [HW.out]
      refine QA.out.mono ?_
      rintro e w5 ⟨d, rfl, hd, hw5⟩
      obtain rfl := hw5.symm
      have hd2 : d ≤ 281474976710656 := by rcases hd with ⟨h1, h2⟩ | ⟨h1, h2, h3⟩ <;> (try unfold B0 at *) <;> omega
      have HST := Lib.hid (cnt_of (T := S0) (cnt_plus HS2.out hc2 hd hm (by decide) (by decide)) (by rw [← HS0.out]))
      have f4 := holdF HO.out 4 rfl
      clear hd
      go_wp2
      clear f4
      go_loop [5, 6, 7] (fun m i _ => ∃ (k c : Nat), k ≤ frames.length ∧ m = .int .i64 c ∧ i = .int .i64 k ∧ Hid (Cnt B1 most (S0 + sumOf cFrame (frames.take k)) c)) (fun _ i _ => frames.length - (intOf i).toNat)
      case atStart => exact ⟨0, _, Nat.zero_le _, rfl, rfl, Lib.hid (by rw [sum_zero]; exact HST.out)⟩
      case round =>
      obtain ⟨k, c, hk, rfl, rfl, HCN⟩ := hrel
      have f4 := holdF HO.out 4 rfl
      by_cases hlt : k < frames.length
      · obtain ⟨⟨fn, bk, ps, fv⟩, hx⟩ : ∃ y, frames[k]? = some y := ⟨_, List.getElem?_eq_getElem hlt⟩
        by_cases hcm : c ≤ most
        · obtain ⟨b3, of3, hn3, hm3, a3, j3⟩ := KF.out.get
          obtain ⟨rfl, _, hb3⟩ := a3 (by omega)
          obtain ⟨cs3, _, q3, u, rfl, hu⟩ := j3 k _ hx
          obtain ⟨B4, k4, rfl⟩ := hu.form
          simp only at hu q3
          obtain ⟨m0, m1, m2, m3⟩ := at4 q3
          obtain ⟨s1, s2, s3⟩ := G4.out _ (List.mem_of_getElem? hx)
          simp only at s1 s2 s3
          have HX := Lib.hid hx
          have HFV := Lib.hid hu
          have HGV := Lib.hid s3
          have hfl : fv.length ≤ 4611686018427387903 := by obtain ⟨_, _, _, h, _⟩ := hu.get; exact h
          clear q3 j3 a3 hx hu s3
          have h7 := cnt_add HCN.out hcm (a := fn.length) (by omega) hm (by decide)
          by_cases hc7 : c + fn.length ≤ most
          · have HST := Lib.hid (cnt_of (T := S0 + sumOf cFrame (frames.take k) + (fn.length + bk.length)) (cnt_add h7 hc7 (a := bk.length) (by omega) hm (by decide)) (by omega))
            clear h7
            go_wp2
            go_loop [5, 7] (fun m i => ∃ (q c : Nat), q ≤ fv.length ∧ m = .int .i64 c ∧ i = .int .i64 q ∧ Hid (Cnt B1 most ((S0 + sumOf cFrame (frames.take k) + (fn.length + bk.length)) + sumOf cBind (fv.take q)) c)) (fun _ i => fv.length - (intOf i).toNat)
            case atStart => exact ⟨0, _, Nat.zero_le _, rfl, rfl, Lib.hid (by rw [sum_zero]; exact HST.out)⟩
            case round =>
            obtain ⟨q, c, hq, rfl, rfl, HCN⟩ := hrel
            by_cases hqt : q < fv.length
            · obtain ⟨⟨bn, ⟨bq, bs, bi⟩⟩, hy⟩ : ∃ y, fv[q]? = some y := ⟨_, List.getElem?_eq_getElem hqt⟩
              by_cases hcm : c ≤ most
              · obtain ⟨b4, of4, hn4, hm4, a4, j4⟩ := HFV.out.get
                obtain ⟨rfl, _, hb4⟩ := a4 (by omega)
                obtain ⟨cs4, _, q4, rfl⟩ := j4 q _ hy
                obtain ⟨r0, r1, r2, r3⟩ := at4 q4
                obtain ⟨s1, s2⟩ := HGV.out _ (List.mem_of_getElem? hy)
                simp only at s1 s2 r0 r1 r2 r3
                have HY := Lib.hid hy
                clear q4 j4 a4 hy
                have h9 := cnt_add HCN.out hcm (a := 1 + bn.length) (by omega) hm (by decide)
                by_cases hc9 : c + 1 + bn.length ≤ most
                · have H9 := Lib.hid (cnt_add (cnt_of (T := (S0 + sumOf cFrame (frames.take k) + (fn.length + bk.length)) + sumOf cBind (fv.take q) + (1 + bn.length)) h9 rfl) (by omega) (a := bs.length) (by omega) hm (by decide))
                  clear h9
                  go_wp2
                  go_round
                  case rel => exact ⟨q + 1, c + (1 + bn.length) + bs.length, by omega, by go_num, by go_num, Lib.hid (cnt_of H9.out (by rw [sum_next _ HY.out]; unfold cBind; simp only; omega))⟩
                  case measure => simp [intOf]; omega
                · have H9 := Lib.hid h9
                  clear h9
                  go_wp2
                  go_round
                  case rel => exact ⟨q + 1, c + (1 + bn.length), by omega, by go_num, by go_num, Lib.hid (cnt_end H9.out (by omega) (by rw [sum_next _ HY.out]; unfold cBind; simp only; omega))⟩
                  case measure => simp [intOf]; omega
              · clear hy
                have H9 := Lib.hid (cnt_end (S' := (S0 + sumOf cFrame (frames.take k) + (fn.length + bk.length)) + sumOf cBind fv) HCN.out hcm (by have := sum_le cBind fv q; omega))
                go_wp2
                go_round
                case rel => exact ⟨k + 1, c, by omega, rfl, by go_num, Lib.hid (cnt_of H9.out (by rw [sum_next _ HX.out]; unfold cFrame; simp only; omega))⟩
                case measure => simp [intOf]; omega
            · have H9 := Lib.hid (cnt_of (T := (S0 + sumOf cFrame (frames.take k) + (fn.length + bk.length)) + sumOf cBind fv) HCN.out (by rw [sum_all cBind (by omega)]))
              go_wp2
              go_round
              case rel => exact ⟨k + 1, c, by omega, rfl, by go_num, Lib.hid (cnt_of H9.out (by rw [sum_next _ HX.out]; unfold cFrame; simp only; omega))⟩
              case measure => simp [intOf]; omega
          · have HST := Lib.hid (cnt_end (S' := S0 + sumOf cFrame (frames.take k) + (fn.length + bk.length)) h7 hc7 (by omega))
            clear h7
            go_wp2
            go_loop [5, 7] (fun m i => ∃ (q c : Nat), q ≤ fv.length ∧ m = .int .i64 c ∧ i = .int .i64 q ∧ Hid (Cnt B1 most ((S0 + sumOf cFrame (frames.take k) + (fn.length + bk.length)) + sumOf cBind (fv.take q)) c)) (fun _ i => fv.length - (intOf i).toNat)
            case atStart => exact ⟨0, _, Nat.zero_le _, rfl, rfl, Lib.hid (by rw [sum_zero]; exact HST.out)⟩
            case round =>
            obtain ⟨q, c, hq, rfl, rfl, HCN⟩ := hrel
            by_cases hqt : q < fv.length
            · obtain ⟨⟨bn, ⟨bq, bs, bi⟩⟩, hy⟩ : ∃ y, fv[q]? = some y := ⟨_, List.getElem?_eq_getElem hqt⟩
              by_cases hcm : c ≤ most
              · obtain ⟨b4, of4, hn4, hm4, a4, j4⟩ := HFV.out.get
                obtain ⟨rfl, _, hb4⟩ := a4 (by omega)
                obtain ⟨cs4, _, q4, rfl⟩ := j4 q _ hy
                obtain ⟨r0, r1, r2, r3⟩ := at4 q4
                obtain ⟨s1, s2⟩ := HGV.out _ (List.mem_of_getElem? hy)
                simp only at s1 s2 r0 r1 r2 r3
                have HY := Lib.hid hy
                clear q4 j4 a4 hy
                have h9 := cnt_add HCN.out hcm (a := 1 + bn.length) (by omega) hm (by decide)
                by_cases hc9 : c + 1 + bn.length ≤ most
                · have H9 := Lib.hid (cnt_add (cnt_of (T := (S0 + sumOf cFrame (frames.take k) + (fn.length + bk.length)) + sumOf cBind (fv.take q) + (1 + bn.length)) h9 rfl) (by omega) (a := bs.length) (by omega) hm (by decide))
                  clear h9
                  go_wp2
                  go_round
                  case rel => exact ⟨q + 1, c + (1 + bn.length) + bs.length, by omega, by go_num, by go_num, Lib.hid (cnt_of H9.out (by rw [sum_next _ HY.out]; unfold cBind; simp only; omega))⟩
                  case measure => simp [intOf]; omega
                · have H9 := Lib.hid h9
                  clear h9
                  go_wp2
                  go_round
                  case rel => exact ⟨q + 1, c + (1 + bn.length), by omega, by go_num, by go_num, Lib.hid (cnt_end H9.out (by omega) (by rw [sum_next _ HY.out]; unfold cBind; simp only; omega))⟩
                  case measure => simp [intOf]; omega
              · clear hy
                have H9 := Lib.hid (cnt_end (S' := (S0 + sumOf cFrame (frames.take k) + (fn.length + bk.length)) + sumOf cBind fv) HCN.out hcm (by have := sum_le cBind fv q; omega))
                go_wp2
                go_round
                case rel => exact ⟨k + 1, c, by omega, rfl, by go_num, Lib.hid (cnt_of H9.out (by rw [sum_next _ HX.out]; unfold cFrame; simp only; omega))⟩
                case measure => simp [intOf]; omega
            · have H9 := Lib.hid (cnt_of (T := (S0 + sumOf cFrame (frames.take k) + (fn.length + bk.length)) + sumOf cBind fv) HCN.out (by rw [sum_all cBind (by omega)]))
              go_wp2
              go_round
              case rel => exact ⟨k + 1, c, by omega, rfl, by go_num, Lib.hid (cnt_of H9.out (by rw [sum_next _ HX.out]; unfold cFrame; simp only; omega))⟩
              case measure => simp [intOf]; omega
        · clear hx
          have HST := Lib.hid (cnt_end (S' := S0 + sumOf cFrame frames) HCN.out hcm (by have := sum_le cFrame frames k; omega))
          have f5 := holdF HO.out 5 rfl
          go_wp2
          clear f4 f5
          go_loop [5, 8] (fun m i => ∃ (k c : Nat), k ≤ objs.length ∧ m = .int .i64 c ∧ i = .int .i64 k ∧ Hid (Cnt B1 most (S0 + sumOf cFrame frames + sumOf cVirt (objs.take k)) c)) (fun _ i => objs.length - (intOf i).toNat)
          case atStart => exact ⟨0, _, Nat.zero_le _, rfl, rfl, Lib.hid (by rw [sum_zero]; exact HST.out)⟩
          case round =>
          obtain ⟨k, c, hk, rfl, rfl, HCN⟩ := hrel
          have f5 := holdF HO.out 5 rfl
          by_cases hlt : k < objs.length
          · obtain ⟨⟨vn, vs⟩, hx⟩ : ∃ y, objs[k]? = some y := ⟨_, List.getElem?_eq_getElem hlt⟩
            by_cases hcm : c ≤ most
            · obtain ⟨b3, of3, hn3, hm3, a3, j3⟩ := KO.out.get
              obtain ⟨rfl, _, hb3⟩ := a3 (by omega)
              obtain ⟨cs3, _, q3, u, rfl, hu⟩ := j3 k _ hx
              obtain ⟨B4, k4, rfl⟩ := hu.form
              simp only at hu q3
              obtain ⟨m0, m1⟩ := at2 q3
              obtain ⟨s1, s2⟩ := G5.out _ (List.mem_of_getElem? hx)
              simp only at s1 s2
              have HX := Lib.hid hx
              have QV := Lib.hid (cntArgs_any lo hi W _ vs hu most hm s2)
              clear q3 j3 a3 hx hu s2
              have h7 := cnt_add HCN.out hcm (a := vn.length) (by omega) hm (by decide)
              by_cases hc7 : c + vn.length ≤ most
              · have H7 := Lib.hid h7
                clear h7
                go_wp2_with ((with_reducible refine QV.out.mono ?_); rintro e w5 ⟨d, rfl, hd, hw5⟩; obtain rfl := hw5.symm; have HD := Lib.hid hd; have hd2 : d ≤ 281474976710656 := (by rcases hd with ⟨h1, h2⟩ | ⟨h1, h2, h3⟩ <;> (try unfold B0 at *) <;> omega); clear hd)
                go_round
                case rel => exact ⟨k + 1, c + vn.length + d, by omega, by go_num, by go_num, Lib.hid (cnt_of (cnt_plus H7.out hc7 HD.out hm (by decide) (by decide)) (by rw [sum_next _ HX.out]; unfold cVirt; simp only; omega))⟩
                case measure => simp [intOf]; omega
              · have H7 := Lib.hid h7
                clear h7
                go_wp2
                go_round
                case rel => exact ⟨k + 1, c + vn.length, by omega, by go_num, by go_num, Lib.hid (cnt_end H7.out hc7 (by rw [sum_next _ HX.out]; unfold cVirt; simp only; omega))⟩
                case measure => simp [intOf]; omega
            · clear hx
              have H9 := Lib.hid (cnt_end (S' := S0 + sumOf cFrame frames + sumOf cVirt objs) HCN.out hcm (by have := sum_le cVirt objs k; omega))
              go_wp2
              go_ret
              exact ⟨c, rfl, cnt_of H9.out (by rw [← HS0.out]; unfold cInstr; simp only; try omega), HB.out⟩
          · have H9 := Lib.hid (cnt_of (T := S0 + sumOf cFrame frames + sumOf cVirt objs) HCN.out (by rw [sum_all cVirt (by omega)]))
            go_wp2
            go_ret
            exact ⟨c, rfl, cnt_of H9.out (by rw [← HS0.out]; unfold cInstr; simp only; try omega), HB.out⟩
      · have HST := Lib.hid (cnt_of (T := S0 + sumOf cFrame frames) HCN.out (by rw [sum_all cFrame (by omega)]))
        have f5 := holdF HO.out 5 rfl
        go_wp2
        clear f4 f5
        go_loop [5, 8] (fun m i => ∃ (k c : Nat), k ≤ objs.length ∧ m = .int .i64 c ∧ i = .int .i64 k ∧ Hid (Cnt B1 most (S0 + sumOf cFrame frames + sumOf cVirt (objs.take k)) c)) (fun _ i => objs.length - (intOf i).toNat)
        case atStart => exact ⟨0, _, Nat.zero_le _, rfl, rfl, Lib.hid (by rw [sum_zero]; exact HST.out)⟩
        case round =>
        obtain ⟨k, c, hk, rfl, rfl, HCN⟩ := hrel
        have f5 := holdF HO.out 5 rfl
        by_cases hlt : k < objs.length
        · obtain ⟨⟨vn, vs⟩, hx⟩ : ∃ y, objs[k]? = some y := ⟨_, List.getElem?_eq_getElem hlt⟩
          by_cases hcm : c ≤ most
          · obtain ⟨b3, of3, hn3, hm3, a3, j3⟩ := KO.out.get
            obtain ⟨rfl, _, hb3⟩ := a3 (by omega)
            obtain ⟨cs3, _, q3, u, rfl, hu⟩ := j3 k _ hx
            obtain ⟨B4, k4, rfl⟩ := hu.form
            simp only at hu q3
            obtain ⟨m0, m1⟩ := at2 q3
            obtain ⟨s1, s2⟩ := G5.out _ (List.mem_of_getElem? hx)
            simp only at s1 s2
            have HX := Lib.hid hx
            have QV := Lib.hid (cntArgs_any lo hi W _ vs hu most hm s2)
            clear q3 j3 a3 hx hu s2
            have h7 := cnt_add HCN.out hcm (a := vn.length) (by omega) hm (by decide)
            by_cases hc7 : c + vn.length ≤ most
            · have H7 := Lib.hid h7
              clear h7
              go_wp2_with ((with_reducible refine QV.out.mono ?_); rintro e w5 ⟨d, rfl, hd, hw5⟩; obtain rfl := hw5.symm; have HD := Lib.hid hd; have hd2 : d ≤ 281474976710656 := (by rcases hd with ⟨h1, h2⟩ | ⟨h1, h2, h3⟩ <;> (try unfold B0 at *) <;> omega); clear hd)
              go_round
              case rel => exact ⟨k + 1, c + vn.length + d, by omega, by go_num, by go_num, Lib.hid (cnt_of (cnt_plus H7.out hc7 HD.out hm (by decide) (by decide)) (by rw [sum_next _ HX.out]; unfold cVirt; simp only; omega))⟩
              case measure => simp [intOf]; omega
            · have H7 := Lib.hid h7
              clear h7
              go_wp2
              go_round
              case rel => exact ⟨k + 1, c + vn.length, by omega, by go_num, by go_num, Lib.hid (cnt_end H7.out hc7 (by rw [sum_next _ HX.out]; unfold cVirt; simp only; omega))⟩
              case measure => simp [intOf]; omega
          · clear hx
            have H9 := Lib.hid (cnt_end (S' := S0 + sumOf cFrame frames + sumOf cVirt objs) HCN.out hcm (by have := sum_le cVirt objs k; omega))
            go_wp2
            go_ret
            exact ⟨c, rfl, cnt_of H9.out (by rw [← HS0.out]; unfold cInstr; simp only; try omega), HB.out⟩
        · have H9 := Lib.hid (cnt_of (T := S0 + sumOf cFrame frames + sumOf cVirt objs) HCN.out (by rw [sum_all cVirt (by omega)]))
          go_wp2
          go_ret
          exact ⟨c, rfl, cnt_of H9.out (by rw [← HS0.out]; unfold cInstr; simp only; try omega), HB.out⟩
    · obtain ⟨c0, hC0⟩ : ∃ c0 : Nat, 1 + dst.length + frames.length + objs.length + nm.length = c0 := ⟨_, rfl⟩
      rw [hC0] at hs2 hc2
      have HST := Lib.hid hs2
      have hc0 := hc2
      have HC0 := Lib.hid (show ((1 : Int) + (dst.length : Int) + (frames.length : Int) + (objs.length : Int) + (nm.length : Int)) = (c0 : Int) by omega)
      have hz : ¬ ((1 : Int) + (dst.length : Int) + (frames.length : Int) + (objs.length : Int) + (nm.length : Int)) ≤ (most : Int) := by omega
      clear hs1 hs2 hc2 hC0
      go_enter Tryd.func89, Tryd.ntmps89
      go_wp2_with fail
      rw [HW.out]
      go_loop [5, 6, 7] (fun m i _ => m = .int .i64 c0 ∧ i = .int .i64 0) (fun _ _ _ => 0)
      case atStart => exact ⟨by rw [HC0.out], rfl⟩
      case round =>
      obtain ⟨rfl, rfl⟩ := hrel
      have f4 := holdF HO.out 4 rfl
      have f5 := holdF HO.out 5 rfl
      by_cases h0 : 0 < frames.length
      all_goals
        go_wp2
        go_loop [5, 8] (fun m i => m = .int .i64 c0 ∧ i = .int .i64 0) (fun _ _ => 0)
        case atStart => exact ⟨rfl, rfl⟩
        case round =>
        obtain ⟨rfl, rfl⟩ := hrel
        by_cases h1 : 0 < objs.length
        all_goals
          go_wp2
          go_ret
          exact ⟨c0, rfl, cnt_end HST.out hc0 (by have := HC0.out; unfold cInstr; simp only; omega), HB.out⟩
  · obtain ⟨c0, hC0⟩ : ∃ c0 : Nat, 1 + dst.length + frames.length + objs.length = c0 := ⟨_, rfl⟩
    rw [hC0] at hs1 hc1
    have HST := Lib.hid hs1
    have hc0 := hc1
    have HC0 := Lib.hid (show ((1 : Int) + (dst.length : Int) + (frames.length : Int) + (objs.length : Int)) = (c0 : Int) by omega)
    have hz : ¬ ((1 : Int) + (dst.length : Int) + (frames.length : Int) + (objs.length : Int)) ≤ (most : Int) := by omega
    clear hs1 hc1 hC0
    go_enter Tryd.func89, Tryd.ntmps89
    go_wp2_with fail
    rw [HW.out]
    go_loop [5, 6, 7] (fun m i _ => m = .int .i64 c0 ∧ i = .int .i64 0) (fun _ _ _ => 0)
    case atStart => exact ⟨by rw [HC0.out], rfl⟩
    case round =>
    obtain ⟨rfl, rfl⟩ := hrel
    have f4 := holdF HO.out 4 rfl
    have f5 := holdF HO.out 5 rfl
    by_cases h0 : 0 < frames.length
    all_goals
      go_wp2
      go_loop [5, 8] (fun m i => m = .int .i64 c0 ∧ i = .int .i64 0) (fun _ _ => 0)
      case atStart => exact ⟨rfl, rfl⟩
      case round =>
      obtain ⟨rfl, rfl⟩ := hrel
      by_cases h1 : 0 < objs.length
      all_goals
        go_wp2
        go_ret
        exact ⟨c0, rfl, cnt_end HST.out hc0 (by have := HC0.out; unfold cInstr; simp only; omega), HB.out⟩
end Go.Proofs.YtikfncgdjnljiaaDoor.Few6
