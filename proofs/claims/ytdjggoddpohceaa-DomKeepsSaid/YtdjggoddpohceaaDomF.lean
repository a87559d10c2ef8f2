/-
  Layer 10: the document's Frontier walked.
-/
import Derived.Test.YtdjggoddpohceaaDomN
import Derived.Deep.RegionHeld3
namespace Go.Proofs.Ytdjggoddpohceaa.Dm10
open Go.RowKit Api Mem Fl9

/-- does one of those below m that a dominates lead to k? -/
def ledB (g : List (List Int)) (a k m : Nat) : Bool := (List.range m).any fun p => domB g a p && decide ((k : Int) ∈ g.getD p [])
theorem led_step (g : List (List Int)) (a k m : Nat) : ledB g a k (m + 1) = (ledB g a k m || (domB g a m && decide ((k : Int) ∈ g.getD m []))) := by
  unfold ledB
  rw [List.range_succ, List.any_append]
  simp
def frB (g : List (List Int)) (a k : Nat) : Bool := (comeV g).getD k false && ledB g a k g.length && (decide (a = k) || !domB g a k)
def fv (g : List (List Int)) (a m : Nat) : List Int := ((List.range m).filter fun k => frB g a k).map fun (k : Nat) => (k : Int)
def frontV (g : List (List Int)) : List (List Int) := (List.range g.length).map fun a => fv g a g.length
theorem fv_step (g : List (List Int)) (a k : Nat) : fv g a (k + 1) = fv g a k ++ if frB g a k = true then [(k : Int)] else [] := by
  unfold fv
  rw [List.range_succ, List.filter_append, List.map_append]
  congr 1
  by_cases h : frB g a k = true
  · rw [if_pos h, List.filter_cons_of_pos h]; rfl
  · rw [if_neg h, List.filter_cons_of_neg h]; rfl
theorem fv_len (g : List (List Int)) (a k : Nat) : (fv g a k).length ≤ k := by
  unfold fv
  rw [List.length_map]
  have := List.length_filter_le (fun i => frB g a i) (List.range k)
  rwa [List.length_range] at this
theorem front_len (g : List (List Int)) : (frontV g).length = g.length := by simp [frontV]
theorem front_at {g : List (List Int)} {i : Nat} (h : i < g.length) : (frontV g)[i]? = some (fv g i g.length) := by
  unfold frontV
  rw [List.getElem?_map, List.getElem?_range h]; rfl
theorem yes10 {P : Program} {f : FuncId} {args : Array Value} {p : Prop} {w w0 : World} (h : Calls P f args w (BP9 p w0)) (b : Bool) (hb : b = true ↔ p) : Calls P f args w fun e w' => e = .returned (.bool b) ∧ Below w0.heap.size w0 w' := h.mono (by
  rintro e w' ⟨c, rfl, hc, hw⟩
  obtain rfl : c = b := by
    cases c with
    | true => exact (hb.2 (hc.1 rfl)).symm
    | false => cases b with
      | false => rfl
      | true => exact hc.2 (hb.1 rfl)
  exact ⟨rfl, hw⟩)
set_option maxRecDepth 100000 in
set_option maxHeartbeats 8000000 in
theorem rfront_any (lo hi : Nat) (w : World) (v : Value) (g : List (List Int)) (hg : Graph lo hi w v g) (hh : hi ≤ w.heap.size) (hn : g.length ≤ 1000) (hs : ∀ l ∈ g, l.length ≤ 1000) :
    Calls Try.prog 18 #[v] w (GP (frontV g) w) := by
  obtain ⟨A1, k1, rfl⟩ := Row.form hg
  obtain ⟨ii, hi1, hi2, hi3, hi4⟩ := info_in9
  have HII : Hid (Try.prog.info? 3 = some ii ∧ ii.zero = some (.int .i64 0) ∧ ii.size = 1 ∧ ii.bytes = 8) := Lib.hid ⟨hi1, hi2, hi3, hi4⟩
  obtain ⟨ir, hr1, hr2, hr3, hr4⟩ := info_parts info_row9
  have HIR : Hid (Try.prog.info? 25 = some ir ∧ ir.zero = some (.slice none 0 0) ∧ ir.size = 1 ∧ ir.bytes = 24) := Lib.hid ⟨hr1, hr2, hr3, hr4⟩
  have QA := Lib.hid (all_any lo hi w _ g hg hh hn hs)
  have HG := Lib.hid hg
  clear hg hs hi1 hi2 hi3 hi4 hr1 hr2 hr3 hr4
  go_enter Try.func18, Try.ntmps18
  go_wp2_with fail
  refine QA.out.mono ?_
  rintro e w1 ⟨vd, rfl, od, hb1⟩
  obtain ⟨Ad, cd, hvd⟩ := od.form
  rw [all_len] at hvd
  subst hvd
  have HD := Lib.hid (od.graph (Nat.le_refl _) (by rw [all_len]; omega) (fun l hl => by obtain ⟨i, _, rfl⟩ := List.mem_map.1 hl; rw [rowB_len]; omega))
  have HB1 := Lib.hid hb1
  have hs1 := hb1.size
  clear od hb1
  have QC := Lib.hid (rcomeG_any lo hi w1 _ g (Graph.move (Still.of_below (HB1.out.mono hh)) HG.out) (Nat.le_trans hh hs1) hn)
  go_wp2_with fail
  refine QC.out.mono ?_
  rintro e w2 ⟨vm, rfl, om, hb2⟩
  obtain ⟨Am, cm, rfl⟩ := any9 om
  have HM := Lib.hid om
  have HU2 := Lib.hid hb2
  have hs2 := hb2.size
  have hcl := come_len g
  clear om hb2
  go_wp2_with fail
  go_loopw [5, 6] (fun vo av wr => ∃ a : Nat, a ≤ g.length ∧ av = .int .i64 a ∧ Hid (GOwn wr w2.heap.size vo ((frontV g).take a)) ∧ Hid (Below w2.heap.size w2 wr)) (fun _ av _ => g.length - (intOf av).toNat)
  case atStart => exact ⟨0, Nat.zero_le _, rfl, Lib.hid ⟨[], rfl, (Hold.Apart.nil w2 w2.heap.size).empty 25 1⟩, Lib.hid (Below.refl _ _)⟩
  case round =>
  obtain ⟨a, ha, rfl, HGO, HBr⟩ := hrel
  by_cases hlt : a < g.length
  · have hta : ((frontV g).take a).length = a := by rw [List.length_take, front_len]; omega
    obtain ⟨Ao, co, hvo⟩ := HGO.out.form
    rw [hta] at hvo
    subst hvo
    obtain ⟨vs, hvs, hap⟩ := HGO.out
    rw [hta] at hvs
    have HVS := Lib.hid hvs
    have HTA := Lib.hid hta
    have HNX := Lib.hid (take_nx (front_at hlt))
    have HAP := Lib.hid (hap.empty 3 1)
    clear hvs hap HGO hta
    go_wp2_with fail
    go_loopw [7, 8] (fun vl kv wr => ∃ k : Nat, k ≤ g.length ∧ kv = .int .i64 k ∧ Hid (Hold.Apart wr w2.heap.size (innR vl (fv g a k) :: outR (.slice Ao a co) vs :: inn vs ((frontV g).take a))) ∧ Hid (Below w2.heap.size w2 wr)) (fun _ kv _ => g.length - (intOf kv).toNat)
    case atStart => exact ⟨0, Nat.zero_le _, rfl, HAP, HBr⟩
    case round =>
    obtain ⟨k, hk, rfl, HA, HBr⟩ := hrel
    obtain ⟨Al, cl, hvl⟩ := HA.out.head.form
    simp only at hvl
    subst hvl
    have hs6 := HBr.out.size
    by_cases hlt2 : k < g.length
    · go_wp2_with fail
      go_loopw [9, 10] (fun lv pv wr => ∃ p : Nat, p ≤ g.length ∧ pv = .int .i64 p ∧ lv = .bool (ledB g a k p) ∧ Hid (Hold.Apart wr w2.heap.size (innR (.slice Al (fv g a k).length cl) (fv g a k) :: outR (.slice Ao a co) vs :: inn vs ((frontV g).take a))) ∧ Hid (Below w2.heap.size w2 wr)) (fun _ pv _ => g.length - (intOf pv).toNat)
      case atStart => exact ⟨0, Nat.zero_le _, rfl, rfl, HA, HBr⟩
      case round =>
      obtain ⟨p, hp, rfl, rfl, HA, HBr⟩ := hrel
      have hls := led_step g a k p
      obtain ⟨lb, hlb⟩ : ∃ lb, ledB g a k p = lb := ⟨_, rfl⟩
      rw [hlb] at hls ⊢
      have HLB := Lib.hid hlb
      clear hlb
      by_cases hlt3 : p < g.length
      · obtain ⟨b, o, b2, o2, c2, rfl, m1, m2⟩ := cell_bb HD.out (HU2.out.trans (HBr.out.mono hs2)) (all_at hlt) (rowB_at hlt3)
        rw [rowB_len] at m1
        obtain ⟨d1, hd1⟩ : ∃ d, domB g a p = d := ⟨_, rfl⟩
        rw [hd1] at m2 hls
        clear hd1
        cases lb with
        | true =>
          have HLS := Lib.hid (show ledB g a k (p + 1) = true by rw [hls]; rfl)
          clear hls
          go_wp2_with fail
          go_roundw
          case rel => exact ⟨p + 1, by omega, by go_num, by rw [HLS.out], HA, HBr⟩
          case measure => simp [intOf]; omega
        | false =>
          cases d1 with
          | false =>
            have HLS := Lib.hid (show ledB g a k (p + 1) = false by rw [hls]; rfl)
            clear hls
            go_wp2_with fail
            go_roundw
            case rel => exact ⟨p + 1, by omega, by go_num, by rw [HLS.out], HA, HBr⟩
            case measure => simp [intOf]; omega
          | true =>
            obtain ⟨gp, hgp⟩ : ∃ x, g[p]? = some x := ⟨_, List.getElem?_eq_getElem hlt3⟩
            have hgd : g.getD p [] = gp := by rw [List.getD_eq_getElem?_getD, hgp]; rfl
            have HXr := Lib.hid (HB1.out.trans ((HU2.out.trans (HBr.out.mono hs2)).mono hs1))
            have QL := Lib.hid (yes10 (leadsG_any lo hi wr _ g (Graph.move (Still.of_below (HXr.out.mono hh)) HG.out) (Nat.le_trans hh HXr.out.size) p gp hgp (k : Int)) (decide ((k : Int) ∈ gp)) decide_eq_true_iff)
            obtain ⟨mb, hmb⟩ : ∃ mb, decide ((k : Int) ∈ gp) = mb := ⟨_, rfl⟩
            rw [hgd, hmb] at hls
            rw [hmb] at QL
            have HLS := Lib.hid (show ledB g a k (p + 1) = mb by rw [hls]; rfl)
            clear hls hmb hgd hgp
            go_wp2_with fail
            refine QL.out.mono ?_
            rintro e w6 ⟨rfl, hb6⟩
            have HA6 := Lib.hid (HA.out.below hb6)
            have HB6 := Lib.hid (HBr.out.trans (hb6.mono HBr.out.size))
            clear hb6
            go_wp2_with fail
            go_roundw
            case rel => exact ⟨p + 1, by omega, by go_num, by rw [HLS.out], HA6, HB6⟩
            case measure => simp [intOf]; omega
      · have hpe : p = g.length := by omega
        subst hpe
        have hlb' := HLB.out
        have hfs := fv_step g a k
        have hfl := fv_len g a k
        have hs7 := HBr.out.size
        obtain ⟨ck, hck⟩ : ∃ b, (comeV g)[k]? = some b := ⟨_, List.getElem?_eq_getElem (by omega)⟩
        obtain ⟨gm, cpm, em, _⟩ := form9 HM.out (by omega)
        simp only [Value.slice.injEq, true_and] at em
        obtain ⟨rfl, rfl⟩ := em
        have c1 := ((row_below9 HM.out HBr.out).cellAt k (by omega)).trans (show (bC (comeV g))[k]? = some (.bool ck) by rw [List.getElem?_map, hck]; rfl)
        obtain ⟨b, o, b2, o2, c2, rfl, m1, m2⟩ := cell_bb HD.out (HU2.out.trans (HBr.out.mono hs2)) (all_at hlt) (rowB_at hlt2)
        rw [rowB_len] at m1
        obtain ⟨dk, hdk⟩ : ∃ d, domB g a k = d := ⟨_, rfl⟩
        rw [hdk] at m2
        have hfr : frB g a k = (ck && ledB g a k g.length && (decide (a = k) || !dk)) := by
          unfold frB
          rw [List.getD_eq_getElem?_getD, hck, hdk]
          rfl
        rw [hfr, hlb'] at hfs
        clear hfr hlb' hck hdk hls
        cases ck with
        | false =>
          have HF2 := Lib.hid (show fv g a (k + 1) = fv g a k by rw [hfs]; exact List.append_nil _)
          clear hfs
          go_wp2_with fail
          go_roundw
          case rel => exact ⟨k + 1, by omega, by go_num, by rw [HF2.out]; exact HA, HBr⟩
          case measure => simp [intOf]; omega
        | true =>
          cases lb with
          | false =>
            have HF2 := Lib.hid (show fv g a (k + 1) = fv g a k by rw [hfs]; exact List.append_nil _)
            clear hfs
            go_wp2_with fail
            go_roundw
            case rel => exact ⟨k + 1, by omega, by go_num, by rw [HF2.out]; exact HA, HBr⟩
            case measure => simp [intOf]; omega
          | true =>
            by_cases hak : a = k
            · subst hak
              rw [decide_eq_true rfl] at hfs
              have HF2 := Lib.hid (show fv g a (a + 1) = fv g a a ++ [(a : Int)] by rw [hfs]; rfl)
              clear hfs
              go_wp2_with (at_builtin; refine Hold.wpList_grow (R := outR (.slice Ao a co) vs :: inn vs ((frontV g).take a)) rfl _ _ 25 rfl w2.heap.size (innR (.slice Al (fv g a a).length cl) (fv g a a)) ii _ 8 Try.underlying25 HII.out.1 HII.out.2.1 HII.out.2.2.1 HII.out.2.2.2 rfl Nat.one_pos rfl HA.out [i64 (a : Int)] _ rfl rfl rfl (by intro u hu; rw [List.mem_singleton] at hu; subst hu; rfl) (by show (fv g a a).length + 1 ≤ _; omega) (by show ((fv g a a).length + 1) * 8 ≤ _; omega) hs7 ?_; intro v7 w7 hA7 hB7; have HA7 := Lib.hid (snoc9 (l := fv g a a) hA7); have HB7 := Lib.hid (HBr.out.trans hB7); clear hA7 hB7)
              go_roundw
              case rel => exact ⟨a + 1, by omega, by go_num, by rw [HF2.out]; exact HA7, HB7⟩
              case measure => simp [intOf]; omega
            · have t1 : ((a : Int) == (k : Int)) = false := by rw [beq_eq_false_iff_ne]; omega
              rw [decide_eq_false hak] at hfs
              clear hak
              cases dk with
              | true =>
                have HF2 := Lib.hid (show fv g a (k + 1) = fv g a k by rw [hfs]; exact List.append_nil _)
                clear hfs
                go_wp2_with fail
                go_roundw
                case rel => exact ⟨k + 1, by omega, by go_num, by rw [HF2.out]; exact HA, HBr⟩
                case measure => simp [intOf]; omega
              | false =>
                have HF2 := Lib.hid (show fv g a (k + 1) = fv g a k ++ [(k : Int)] by rw [hfs]; rfl)
                clear hfs
                go_wp2_with (at_builtin; refine Hold.wpList_grow (R := outR (.slice Ao a co) vs :: inn vs ((frontV g).take a)) rfl _ _ 25 rfl w2.heap.size (innR (.slice Al (fv g a k).length cl) (fv g a k)) ii _ 8 Try.underlying25 HII.out.1 HII.out.2.1 HII.out.2.2.1 HII.out.2.2.2 rfl Nat.one_pos rfl HA.out [i64 (k : Int)] _ rfl rfl rfl (by intro u hu; rw [List.mem_singleton] at hu; subst hu; rfl) (by show (fv g a k).length + 1 ≤ _; omega) (by show ((fv g a k).length + 1) * 8 ≤ _; omega) hs7 ?_; intro v7 w7 hA7 hB7; have HA7 := Lib.hid (snoc9 (l := fv g a k) hA7); have HB7 := Lib.hid (HBr.out.trans hB7); clear hA7 hB7)
                go_roundw
                case rel => exact ⟨k + 1, by omega, by go_num, by rw [HF2.out]; exact HA7, HB7⟩
                case measure => simp [intOf]; omega
    · have hke : k = g.length := by omega
      subst hke
      have HA2 := Lib.hid (HA.out.perm (List.Perm.swap _ _ _))
      have hvs := HVS.out
      have hfl := fv_len g a g.length
      go_wp2_with (at_builtin; refine Hold.wpList_grow (R := innR (.slice Al (fv g a g.length).length cl) (fv g a g.length) :: inn vs ((frontV g).take a)) rfl _ _ 22 rfl w2.heap.size (outR (.slice Ao a co) vs) ir _ 24 Try.underlying22 HIR.out.1 HIR.out.2.1 HIR.out.2.2.1 HIR.out.2.2.2 rfl Nat.one_pos rfl HA2.out [.slice Al (fv g a g.length).length cl] _ rfl rfl rfl (by intro u hu; rw [List.mem_singleton] at hu; subst hu; rfl) (by show vs.length + 1 ≤ _; omega) (by show (vs.length + 1) * 24 ≤ _; omega) hs6 ?_; intro v7 w7 hA7 hB7; have HG7 := Lib.hid (GOwn.snoc (by rw [hvs, HTA.out]) hA7); have HB7 := Lib.hid (HBr.out.trans hB7); clear hA7 hB7)
      rw [← HNX.out] at HG7
      go_roundw
      case rel => exact ⟨a + 1, by omega, by go_num, HG7, HB7⟩
      case measure => simp [intOf]; omega
  · have hke : a = g.length := by omega
    subst hke
    rw [List.take_of_length_le (by rw [front_len]; exact Nat.le_refl _)] at HGO
    go_wp2_with fail
    go_ret
    exact ⟨_, rfl, HGO.out.lower (Nat.le_trans hs1 hs2), HB1.out.trans ((HU2.out.trans (HBr.out.mono hs2)).mono hs1)⟩
end Go.Proofs.Ytdjggoddpohceaa.Dm10
