/-
  The law AssignWays: along whatever way from the first block, what is told to be set has been set.
-/
import Derived.Test.YtaeklfljibjpiaaRows
import Derived.Test.YtaeklfljibjpiaaExW
import Derived.Test.YtaeklfljibjpiaaAsG
import Derived.Test.YtaeklfljibjpiaaLvPl
import Derived.Test.YtaeklfljibjpiaaLvFew
import Derived.Deep.RegionLaw
import Derived.StillTailTactics
import Derived.Deep.QuietTactic
import Derived.BigQuiet
import Derived.Deep.RegionHeld3
import Derived.Test.YtaeklfljibjpiaaShell
import Derived.ProofKit
import Derived.OpenShut
import Derived.SizedLaws
namespace Go.Proofs.Ytaeklfljibjpiaa.assignWays
open Go.ChangeShapes Go.WideShapes Go.ChangeAt Go.RowKit
open Api Mem Sh8 Lv12 As13
def ts_at (P : List Value → Bool → Prop) : Prop := True
theorem size_all {f : Api.Func} {S : List Wd} {U : List Wd} (hU : UOk U) (h : Rise S) (hs : ∀ x ∈ S, x ∈ U) : S.length ≤ 1000000000000 := Nat.le_trans (sub_len h.nd hs) hU.len
theorem put_all {U S : List Wd} {x : Wd} (hs : ∀ y ∈ S, y ∈ U) (hx : x ∈ U) : ∀ y ∈ putV S x, y ∈ U := fun y hy => by
  rcases putV_mem.1 hy with h | rfl
  · exact hs y h
  · exact hx
theorem mem_step {α : Type} {l : List α} {g : α → Wd} {k : Nat} {a : α} (h : l[k]? = some a) (x : Wd) : x ∈ (l.take (k + 1)).map g ↔ x ∈ (l.take k).map g ∨ x = g a := by
  rw [take_at h, List.map_append, List.mem_append]
  simp
theorem sets_step {l : List Api.Instr} {k : Nat} {a : Api.Instr} (h : l[k]? = some a) (x : Wd) : x ∈ setsL (l.take (k + 1)) ↔ x ∈ setsL (l.take k) ∨ (a.dst ≠ [] ∧ x = a.dst) := by
  rw [take_at h]
  unfold setsL
  rw [List.filter_append, List.map_append, List.mem_append]
  by_cases e : a.dst = []
  · simp [e]
  · simp [e]
/-- what is not among S is unset on some way to block i, ahead of its phis. -/
def Ahead (f : Api.Func) (b : Api.Block) (i : Nat) (S : List Wd) : Prop := ∀ x, x ∉ S → x ∉ b.phis.map (·.dst) → UnF f i x
theorem ahead_start {f : Api.Func} {b : Api.Block} {S : List Wd} (h : ∀ x, x ∈ S ↔ x ∈ f.params.map (·.name)) : Ahead f b 0 S := fun x hx _ => .start fun hp => hx ((h x).2 hp)
theorem ahead_next {f : Api.Func} {b c : Api.Block} {i t : Nat} {d : Wd} {S S2 : List Wd} (hb : f.blocks[i]? = some b) (hc : f.blocks[t]? = some c) (hd : d ∈ b.fin.dest) (hp : plc (names f.blocks) d = some t) (h : ∀ x, x ∉ S → UnF f i x) (h2 : ∀ x, x ∈ S2 ↔ x ∈ S ∨ x ∈ setsL b.code) : Ahead f c t S2 := fun x hx hn => by
  have h3 : ¬ (x ∈ S ∨ x ∈ setsL b.code) := fun h => hx ((h2 x).2 h)
  refine .step (a := i) ?_ (h x fun h => h3 (.inl h)) ?_ ?_
  · refine List.mem_flatMap.2 ⟨i, List.mem_range.2 (List.getElem?_eq_some_iff.1 hb).1, ?_⟩
    unfold edgesOf
    rw [hb]
    exact List.mem_map.2 ⟨d, hd, by rw [hp]; rfl⟩
  · show SB f.blocks (4 * t) x = false
    rw [SB_0 hc]
    exact decide_eq_false hn
  · show SB f.blocks (4 * i + 1) x = false
    rw [SB_1 hb]
    exact decide_eq_false fun h => h3 (.inr h)
theorem drewN_below (w : World) (n : Nat) : Below w.heap.size w (w.drewN n) := ⟨rfl, rfl, rfl, Nat.le_refl _, fun _ _ => rfl⟩
theorem seven_next {w1 w' Wb : World} {a0 a1 a2 a3 a4 a5 a6 : Addr} {v0 v1 v2 v3 v4 v5 v6 : Value} (hb : Below w1.heap.size w1 w') (h : (w1.cell? a0 = some v0 ∧ w1.cell? a1 = some v1 ∧ w1.cell? a2 = some v2 ∧ w1.cell? a3 = some v3 ∧ w1.cell? a4 = some v4 ∧ w1.cell? a5 = some v5 ∧ w1.cell? a6 = some v6) ∧ Hid (Below Wb.heap.size Wb w1)) :
    (w'.cell? a0 = some v0 ∧ w'.cell? a1 = some v1 ∧ w'.cell? a2 = some v2 ∧ w'.cell? a3 = some v3 ∧ w'.cell? a4 = some v4 ∧ w'.cell? a5 = some v5 ∧ w'.cell? a6 = some v6) ∧ Hid (Below Wb.heap.size Wb w') :=
  have k : ∀ {a v}, w1.cell? a = some v → w'.cell? a = some v := fun h => (hb.cell (World.block_lt_of_cell? w1 _ h)).trans h
  ⟨⟨k h.1.1, k h.1.2.1, k h.1.2.2.1, k h.1.2.2.2.1, k h.1.2.2.2.2.1, k h.1.2.2.2.2.2.1, k h.1.2.2.2.2.2.2⟩, Lib.hid (h.2.out.trans (hb.mono h.2.out.size))⟩
set_option maxRecDepth 100000 in
set_option maxHeartbeats 16000000 in
theorem walk (v : Value) (q : Api.Func × List Value) (vt : Value) (ts : List Bool) {w : World} (hq : v = .agg q.2.toArray ∧ FuncC 0 w.heap.size w q.2 q.1 ∧ OpenP.funcG q.1) (hts : Row 0 w.heap.size w 1 (fun cs x => cs = [.bool x]) vt ts) :
    Calls Try.prog 3 #[v, vt] w fun e w' => e = .returned (.bool true) ∧ Below w.heap.size w w' := by
  obtain ⟨rfl, hfc, hG⟩ := hq
  obtain ⟨f, cs⟩ := q
  simp only at hfc hG
  have hfc0 := hfc
  obtain ⟨u1, u2, u3, rfl, kp, kv, kb⟩ := hfc
  obtain ⟨nm, rs, ps, vs, bl⟩ := f
  simp only at kp kv kb
  obtain ⟨A1, k1, rfl⟩ := kp.form
  obtain ⟨A2, k2, rfl⟩ := kv.form
  obtain ⟨A3, k3, rfl⟩ := kb.form
  obtain ⟨W, hW⟩ : ∃ W, w.alloc (.cells #[str nm, str rs, .slice A1 ps.length k1, .slice A2 vs.length k2, .slice A3 bl.length k3] 25) = W := ⟨_, rfl⟩
  obtain ⟨o1, b1, z1⟩ := box8 (c := [str nm, str rs, .slice A1 ps.length k1, .slice A2 vs.length k2, .slice A3 bl.length k3]) hW
  have HF0 := Lib.hid hfc0
  have HG := Lib.hid hG
  have KB := Lib.hid kb
  have KP := Lib.hid kp
  obtain ⟨At, kt, rfl⟩ := hts.form
  have KT := Lib.hid hts
  have htl0 : ts.length ≤ 4611686018427387903 := by obtain ⟨_, _, _, h, _⟩ := Row.get hts; exact h
  have HO := Lib.hid o1
  have HB := Lib.hid b1
  have HW := Lib.hid hW
  have zlt := o1.lt
  have hpl : ps.length ≤ 4611686018427387903 := by obtain ⟨_, _, _, h, _⟩ := Row.get kp; exact h
  clear hts o1 b1 hW kp kv kb hfc0 hG
  go_enter Try.func3, Try.ntmps3
  go_wp2_with fail
  rw [HW.out]
  refine (L13.awake13_any W).mono ?_
  rintro e w1 ⟨rfl, hb1⟩
  have HB1 := Lib.hid (HB.out.trans (hb1.mono HB.out.size))
  have HO1 := Lib.hid (HO.out.below hb1 HO.out.lt)
  have QF := Lib.hid (few13_any 0 w.heap.size w1 _ _ (FuncC.move (Still.of_below HB1.out) HF0.out) HB1.out.size (func_s12 HG.out))
  clear hb1
  have f0 := HO1.out.cell 0
  have f1 := HO1.out.cell 1
  have f2 := HO1.out.cell 2
  have f3 := HO1.out.cell 3
  have f4 := HO1.out.cell 4
  simp only [List.getElem?_cons_succ, List.getElem?_cons_zero] at f0 f1 f2 f3 f4
  go_wp2_with fail
  refine QF.out.mono ?_
  rintro e w2 ⟨b2, rfl, hfew, hb2⟩
  have HB2 := Lib.hid (HB1.out.trans (hb2.mono HB1.out.size))
  have HO2 := Lib.hid (HO1.out.below hb2 HO1.out.lt)
  clear hb2 f0 f1 f2 f3 f4
  cases b2 with
  | false =>
    clear hfew
    go_wp2_with fail
    refine (L13.awake13_any w2).mono ?_
    rintro e w7 ⟨rfl, hb9⟩
    have HB9 := Lib.hid (HB2.out.trans (hb9.mono HB2.out.size))
    clear hb9
    go_wp2_with fail
    go_ret
    exact ⟨rfl, HB9.out⟩
  | true =>
    have HFW := Lib.hid (hfew rfl)
    have hlb : bl.length ≤ 30 := HFW.out.2.2.1
    have HU := Lib.hid (uok13 HG.out HFW.out)
    have HOK := Lib.hid (fok13 HG.out HFW.out)
    have hn0 : 0 < bl.length := HOK.out.pos
    obtain ⟨b, hx⟩ : ∃ y, bl[0]? = some y := ⟨_, List.getElem?_eq_getElem hn0⟩
    have HX := Lib.hid hx
    clear hfew
    have f0 := HO2.out.cell 0
    have f1 := HO2.out.cell 1
    have f2 := HO2.out.cell 2
    have f3 := HO2.out.cell 3
    have f4 := HO2.out.cell 4
    simp only [List.getElem?_cons_succ, List.getElem?_cons_zero] at f0 f1 f2 f3 f4
    have QI := Lib.hid (ins13_any HU.out 0 w.heap.size w2 _ _ (FuncC.move (Still.of_below HB2.out) HF0.out) HB2.out.size HOK.out (par13 _) (by show bl.length ≤ 60; omega) (fun b hb => (HFW.out.2.1.2 b hb).1) HFW.out.2.2.2)
    clear hx
    by_cases h200 : 200 < ts.length
    · have e200 : decide ((200 : Int) < (ts.length : Int)) = true := decide_eq_true (by omega)
      clear QI
      go_wp2_with fail
      refine (L13.awake13_any w2).mono ?_
      rintro e w7 ⟨rfl, hb9⟩
      have HB9 := Lib.hid (HB2.out.trans (hb9.mono HB2.out.size))
      clear hb9
      go_wp2_with fail
      go_ret
      exact ⟨rfl, HB9.out⟩
    · have e200 : decide ((200 : Int) < (ts.length : Int)) = false := decide_eq_false (by omega)
      go_wp2_with fail
      refine QI.out.mono ?_
      rintro e w3 ⟨Bv, rfl, hr3, hb3⟩
      simp only at hr3
      have HR3 := Lib.hid hr3
      have HB3 := Lib.hid (HB2.out.trans (hb3.mono HB2.out.size))
      have HO3 := Lib.hid (HO2.out.below hb3 HO2.out.lt)
      have hz1 : w.heap.size < w3.heap.size := HO3.out.lt
      have HBr3 := Lib.hid (Below.refl w3.heap.size w3)
      have HS0 := Lib.hid (show Rise ([] : List Wd) ∧ (∀ x ∈ ([] : List Wd), x ∈ allP ⟨nm, rs, ps, vs, bl⟩) ∧ ∀ x, x ∈ ([] : List Wd) ↔ x ∈ (ps.take 0).map (·.name) from ⟨⟨List.nodup_nil, List.Pairwise.nil⟩, fun x h => (by cases h), fun x => by simp⟩)
      have HN0 := Lib.hid (show w3.ownsRow w3.heap.size 9 1 (.slice none 0 0) ([] : List Wd).length (([] : List Wd).map str) from ⟨by simp, .inl ⟨rfl, rfl⟩⟩)
      clear hb3 hr3 f0 f1 f2 f3 f4 QI
      go_wp2_with fail
      go_loopw [6, 7] (fun sv iv wr => ∃ (k : Nat) (S : List Wd) (AS : Option Addr) (cS base : Nat), k ≤ ps.length ∧ iv = .int .i64 k ∧ sv = .slice AS S.length cS ∧ Hid (Rise S ∧ (∀ x ∈ S, x ∈ allP ⟨nm, rs, ps, vs, bl⟩) ∧ ∀ x, x ∈ S ↔ x ∈ (ps.take k).map (·.name)) ∧ Hid (wr.ownsRow base 9 1 (.slice AS S.length cS) S.length (S.map str)) ∧ Hid (Below w3.heap.size w3 wr)) (fun _ iv _ => ps.length - (intOf iv).toNat)
      case atStart => exact ⟨0, [], none, 0, _, Nat.zero_le _, rfl, rfl, HS0, HN0, HBr3⟩
      case round =>
      clear HBr3 HS0 HN0
      obtain ⟨k, S, AS, cS, baseS, hk, rfl, rfl, HS, HSO, HBr⟩ := hrel
      have HBa := Lib.hid (HB3.out.trans (HBr.out.mono (by omega)))
      have HOa := Lib.hid (HO3.out.below HBr.out hz1)
      have hSl : S.length ≤ 1000000000000 := size_all (f := ⟨nm, rs, ps, vs, bl⟩) HU.out HS.out.1 HS.out.2.1
      have f0 := HOa.out.cell 0
      have f1 := HOa.out.cell 1
      have f2 := HOa.out.cell 2
      have f3 := HOa.out.cell 3
      have f4 := HOa.out.cell 4
      simp only [List.getElem?_cons_succ, List.getElem?_cons_zero] at f0 f1 f2 f3 f4
      by_cases hlt : k < ps.length
      · obtain ⟨y, hy⟩ : ∃ y, ps[k]? = some y := ⟨_, List.getElem?_eq_getElem hlt⟩
        obtain ⟨b4, o4, rfl, hb4, cs4, hcl4, hcs4, e4⟩ := row_at KP.out hy
        subst e4
        obtain ⟨n0, n1⟩ := at2 (cells_later hcs4 HBa.out hb4)
        have HY := Lib.hid (show Rise (putV S y.name) ∧ (∀ x ∈ putV S y.name, x ∈ allP ⟨nm, rs, ps, vs, bl⟩) ∧ ∀ x, x ∈ putV S y.name ↔ x ∈ (ps.take (k + 1)).map (·.name) from ⟨putV_rise HS.out.1 _, put_all HS.out.2.1 (par13 ⟨nm, rs, ps, vs, bl⟩ y (List.mem_of_getElem? hy)), fun x => by rw [putV_mem, HS.out.2.2 x]; exact (mem_step hy x).symm⟩)
        have QP := Lib.hid (put12_any _ _ wr _ S y.name (texts_own HSO.out rfl (by omega)) (Nat.le_refl _) hSl)
        clear hy hcs4
        go_wp2_with fail
        refine QP.out.mono ?_
        rintro e w9 ⟨v9, rfl, ho9, hb9⟩
        obtain ⟨A9, c9, rfl⟩ := row_form ho9
        have HO9 := Lib.hid ho9
        have HB9 := Lib.hid (HBr.out.trans (hb9.mono HBr.out.size))
        clear ho9 hb9 QP f0 f1 f2 f3 f4 n0 n1
        go_wp2_with fail
        go_roundw
        case rel => exact ⟨k + 1, _, A9, c9, _, by omega, by go_num, rfl, HY, HO9, HB9⟩
        case measure => simp [intOf]; omega
      · obtain rfl : k = ps.length := by omega
        have HA0 := Lib.hid (show Rise S ∧ (∀ x ∈ S, x ∈ allP ⟨nm, rs, ps, vs, bl⟩) ∧ ∀ b, bl[0]? = some b → Ahead ⟨nm, rs, ps, vs, bl⟩ b 0 S from ⟨HS.out.1, HS.out.2.1, fun b _ => ahead_start fun x => by have := HS.out.2.2 x; rwa [List.take_length] at this⟩)
        clear HS HBa HOa hSl hlt hk
        go_wp2_with fail
        go_loopw [6, 8, 9] (fun sv av nv wr => ∃ (n at' : Nat) (S : List Wd) (AS : Option Addr) (cS base : Nat), n ≤ ts.length ∧ nv = .int .i64 n ∧ av = .int .i64 at' ∧ at' < bl.length ∧ sv = .slice AS S.length cS ∧ Hid (Rise S ∧ (∀ x ∈ S, x ∈ allP ⟨nm, rs, ps, vs, bl⟩) ∧ ∀ b, bl[at']? = some b → Ahead ⟨nm, rs, ps, vs, bl⟩ b at' S) ∧ Hid (wr.ownsRow base 9 1 (.slice AS S.length cS) S.length (S.map str)) ∧ Hid (Below w3.heap.size w3 wr)) (fun _ _ nv _ => ts.length + 1 - (intOf nv).toNat)
        case atStart => exact ⟨0, 0, S, AS, cS, _, Nat.zero_le _, rfl, rfl, hn0, rfl, HA0, HSO, HBr⟩
        case round =>
        clear HA0 HSO HBr f0 f1 f2 f3 f4
        obtain ⟨n, i, S, AS, cS, baseS, hn, rfl, rfl, hi, rfl, HS, HSO, HBr⟩ := hrel
        have HBa := Lib.hid (HB3.out.trans (HBr.out.mono (by omega)))
        have HOa := Lib.hid (HO3.out.below HBr.out hz1)
        have en : decide ((n : Int) ≤ (ts.length : Int)) = true := decide_eq_true (by omega)
        have f0 := HOa.out.cell 0
        have f1 := HOa.out.cell 1
        have f2 := HOa.out.cell 2
        have f3 := HOa.out.cell 3
        have f4 := HOa.out.cell 4
        simp only [List.getElem?_cons_succ, List.getElem?_cons_zero] at f0 f1 f2 f3 f4
        obtain ⟨b, hx⟩ : ∃ y, bl[i]? = some y := ⟨_, List.getElem?_eq_getElem hi⟩
        obtain ⟨b3, o3, rfl, hb3, cs3, hcl3, hcs3, x1, x2, cs4, e4, kph, kco, x4, e5, kto⟩ := row_at KB.out hx
        subst e5
        subst e4
        obtain ⟨A5, k5, rfl⟩ := Row.form kph
        obtain ⟨A6, k6, rfl⟩ := Row.form kco
        obtain ⟨A7, k7, rfl⟩ := Row.form kto
        obtain ⟨m0, m1, m2, m3, m4, m5, m6, m7, m8⟩ := at9 (cells_later hcs3 HBa.out hb3)
        have HX := Lib.hid hx
        have KPH := Lib.hid kph
        have KCO := Lib.hid kco
        have KTO := Lib.hid kto
        have hpl2 : b.phis.length ≤ 4611686018427387903 := by obtain ⟨_, _, _, h, _⟩ := Row.get kph; exact h
        have hcl : b.code.length ≤ 4611686018427387903 := by obtain ⟨_, _, _, h, _⟩ := Row.get kco; exact h
        have htl : b.fin.dest.length ≤ 4611686018427387903 := by obtain ⟨_, _, _, h, _⟩ := Row.get kto; exact h
        have HTL := Lib.hid htl
        have HAH := Lib.hid (HS.out.2.2 b hx)
        obtain ⟨bb, hbb⟩ : ∃ bb, wr.heap.size = bb := ⟨_, rfl⟩
        obtain ⟨Wb, hWb⟩ : ∃ Wb, wr.alloc (.cells #[str b.name, .slice A5 b.phis.length k5, .slice A6 b.code.length k6, i64 b.fin.kind, i64 b.fin.a.kind, str b.fin.a.s, i64 b.fin.a.n, .slice A7 b.fin.dest.length k7, i64 b.fin.n] 42) = Wb := ⟨_, rfl⟩
        have HBB := Lib.hid (show Below wr.heap.size wr Wb by rw [← hWb]; exact (Below.refl _ _).alloc (Nat.le_refl _) _)
        have HOB := Lib.hid (show Mem.Own Wb bb 42 [str b.name, .slice A5 b.phis.length k5, .slice A6 b.code.length k6, i64 b.fin.kind, i64 b.fin.a.kind, str b.fin.a.s, i64 b.fin.a.n, .slice A7 b.fin.dest.length k7, i64 b.fin.n] by rw [← hWb, ← hbb]; exact Mem.Own.made wr _ _)
        have HOW := Lib.hid (HOa.out.below HBB.out HOa.out.lt)
        have HBW := Lib.hid (show Below w.heap.size w Wb from HBa.out.trans (HBB.out.mono HBa.out.size))
        have HB3W := Lib.hid (show Below w3.heap.size w3 Wb from HBr.out.trans (HBB.out.mono HBr.out.size))
        have HRW := Lib.hid (HR3.out.below HB3W.out)
        have hzw : w.heap.size < Wb.heap.size := HOW.out.lt
        have hbl : bb < Wb.heap.size := HOB.out.lt
        have HSW := Lib.hid (own_below HSO.out HBB.out)
        have HSP := Lib.hid (show Rise S ∧ (∀ x ∈ S, x ∈ allP ⟨nm, rs, ps, vs, bl⟩) ∧ ∀ x, x ∈ S ↔ x ∈ S ∨ x ∈ (b.phis.take 0).map (·.dst) from ⟨HS.out.1, HS.out.2.1, fun x => by simp⟩)
        have HE := Lib.hid (show wr.heap.size = bb ∧ wr.alloc (.cells #[str b.name, .slice A5 b.phis.length k5, .slice A6 b.code.length k6, i64 b.fin.kind, i64 b.fin.a.kind, str b.fin.a.s, i64 b.fin.a.n, .slice A7 b.fin.dest.length k7, i64 b.fin.n] 42) = Wb from ⟨hbb, hWb⟩)
        have HBr0 := Lib.hid (Below.refl Wb.heap.size Wb)
        clear hcs3 hx kph kco kto hWb hbb HS HSO
        go_wp2_with fail
        rw [HE.out.2, HE.out.1]
        clear f0 f1 f2 f3 f4 m0 m1 m2 m3 m4 m5 m6 m7 m8 en
        obtain ⟨S0, hS0⟩ : ∃ S0, S = S0 := ⟨_, rfl⟩
        have HAH := Lib.hid (hS0 ▸ HAH.out)
        have HSP := Lib.hid (show Rise S ∧ (∀ x ∈ S, x ∈ allP ⟨nm, rs, ps, vs, bl⟩) ∧ ∀ x, x ∈ S ↔ x ∈ S0 ∨ x ∈ (b.phis.take 0).map (·.dst) from hS0 ▸ HSP.out)
        clear hS0
        go_loopw [6, 11] (fun sv iv wr => ∃ (k : Nat) (S : List Wd) (AS : Option Addr) (cS base : Nat), k ≤ b.phis.length ∧ iv = .int .i64 k ∧ sv = .slice AS S.length cS ∧ Hid (Rise S ∧ (∀ x ∈ S, x ∈ allP ⟨nm, rs, ps, vs, bl⟩) ∧ ∀ x, x ∈ S ↔ x ∈ S0 ∨ x ∈ (b.phis.take k).map (·.dst)) ∧ Hid (wr.ownsRow base 9 1 (.slice AS S.length cS) S.length (S.map str)) ∧ Hid (Below Wb.heap.size Wb wr)) (fun _ iv _ => b.phis.length - (intOf iv).toNat)
        case atStart => exact ⟨0, S, AS, cS, _, Nat.zero_le _, rfl, rfl, HSP, HSW, HBr0⟩
        case round =>
        clear HSP HSW HBr0 HBr HBa HOa
        obtain ⟨k, S, AS, cS, baseS, hk, rfl, rfl, HS, HSO, HBk⟩ := hrel
        have HOk := Lib.hid (HOB.out.below HBk.out hbl)
        have HBw := Lib.hid (HBW.out.trans (HBk.out.mono (Nat.le_of_lt hzw)))
        have hSl : S.length ≤ 1000000000000 := size_all (f := ⟨nm, rs, ps, vs, bl⟩) HU.out HS.out.1 HS.out.2.1
        have m0 := HOk.out.cell 0
        have m1 := HOk.out.cell 1
        have m2 := HOk.out.cell 2
        have m3 := HOk.out.cell 3
        have m4 := HOk.out.cell 4
        have m5 := HOk.out.cell 5
        have m6 := HOk.out.cell 6
        have m7 := HOk.out.cell 7
        have m8 := HOk.out.cell 8
        simp only [List.getElem?_cons_succ, List.getElem?_cons_zero] at m0 m1 m2 m3 m4 m5 m6 m7 m8
        by_cases hlt : k < b.phis.length
        · obtain ⟨y, hy⟩ : ∃ y, b.phis[k]? = some y := ⟨_, List.getElem?_eq_getElem hlt⟩
          obtain ⟨b7, o7, rfl, hb7, cs7, hcl7, hcs7, u7', rfl, kin⟩ := row_at KPH.out hy
          obtain ⟨q0, q1⟩ := at2 (cells_later hcs7 HBw.out hb7)
          have HY := Lib.hid (show Rise (putV S y.dst) ∧ (∀ x ∈ putV S y.dst, x ∈ allP ⟨nm, rs, ps, vs, bl⟩) ∧ ∀ x, x ∈ putV S y.dst ↔ x ∈ S0 ∨ x ∈ (b.phis.take (k + 1)).map (·.dst) from ⟨putV_rise HS.out.1 _, put_all HS.out.2.1 (HOK.out.ph b (List.mem_of_getElem? HX.out) y (List.mem_of_getElem? hy)).1, fun x => by rw [putV_mem, HS.out.2.2 x, mem_step hy x, or_assoc]⟩)
          have QP := Lib.hid (put12_any _ _ wr _ S y.dst (texts_own HSO.out rfl (by omega)) (Nat.le_refl _) hSl)
          clear hy hcs7 kin
          go_wp2_with fail
          refine QP.out.mono ?_
          rintro e w9 ⟨v9, rfl, ho9, hb9⟩
          obtain ⟨A9, c9, rfl⟩ := row_form ho9
          have HO9 := Lib.hid ho9
          have HB9 := Lib.hid (HBk.out.trans (hb9.mono HBk.out.size))
          clear ho9 hb9 QP q0 q1 m0 m1 m2 m3 m4 m5 m6 m7 m8
          go_wp2_with fail
          go_roundw
          case rel => exact ⟨k + 1, _, A9, c9, _, by omega, by go_num, rfl, HY, HO9, HB9⟩
          case measure => simp [intOf]; omega
        · obtain rfl : k = b.phis.length := by omega
          have HUN := Lib.hid (show Rise S ∧ (∀ x ∈ S, x ∈ allP ⟨nm, rs, ps, vs, bl⟩) ∧ ∀ x, x ∉ S → UnF ⟨nm, rs, ps, vs, bl⟩ i x from ⟨HS.out.1, HS.out.2.1, fun x hx => by
            have h9 := HS.out.2.2 x
            rw [List.take_length] at h9
            exact HAH.out x (fun h => hx (h9.2 (.inl h))) (fun h => hx (h9.2 (.inr h)))⟩)
          clear HS HAH hlt hk
          obtain ⟨vI, rI, hcI, hrI, hmI, hoI⟩ := (HRW.out.below HBk.out).at hi
          obtain ⟨AI, kI, rfl⟩ := row_form hoI
          have hrIl : rI.length ≤ 1000000000000 := size_all (f := ⟨nm, rs, ps, vs, bl⟩) HU.out hrI fun x hx => HUN.out.2.1 x (Classical.byContradiction fun h => (hmI x).1 hx (HUN.out.2.2 x h))
          have HIN := Lib.hid (show ∀ x ∈ rI, x ∈ S from fun x hx => Classical.byContradiction fun h => (hmI x).1 hx (HUN.out.2.2 x h))
          have HOI := Lib.hid hoI
          have HCI := Lib.hid hcI
          have HBs := Lib.hid (Below.refl wr.heap.size wr)
          obtain ⟨Wp, hWp⟩ : ∃ Wp, Wp = wr := ⟨_, rfl⟩
          subst hWp
          clear hcI hrI hmI hoI
          go_wp2_with fail
          go_loopw [12] (fun zv wr => ∃ z : Nat, z ≤ rI.length ∧ zv = .int .i64 z ∧ Hid (Below Wp.heap.size Wp wr)) (fun zv _ => rI.length - (intOf zv).toNat)
          case atStart => exact ⟨0, Nat.zero_le _, rfl, HBs⟩
          case round =>
          clear HBs m0 m1 m2 m3 m4 m5 m6 m7 m8
          obtain ⟨z, hz, rfl, HBs⟩ := hrel
          have HBk2 := Lib.hid (HBk.out.trans (HBs.out.mono HBk.out.size))
          have hcI := (HBs.out.cell (World.block_lt_of_cell? Wp _ HCI.out)).trans HCI.out
          have HSO2 := Lib.hid (own_below HSO.out HBs.out)
          by_cases hlt : z < rI.length
          · obtain ⟨y, hy⟩ : ∃ x, rI[z]? = some x := ⟨_, List.getElem?_eq_getElem hlt⟩
            have hoz := own_below HOI.out HBs.out
            obtain ⟨b9, rfl, hb9, hb99⟩ := own_addr hoz hlt
            have p0 := own_at hoz (show (rI.map str)[z]? = some (str y) by rw [List.getElem?_map, hy]; rfl)
            have HYS := Lib.hid (HIN.out y (List.mem_of_getElem? hy))
            have QI := Lib.hid (in12_any _ _ wr _ S y (texts_own HSO2.out rfl (by omega)) (Nat.le_refl _))
            clear hy hoz
            go_wp2_with fail
            refine QI.out.mono ?_
            rintro e w9 ⟨q, rfl, hq, hb9⟩
            obtain rfl : q = true := hq.2 HYS.out
            have HRQ9 := Lib.hid (HBs.out.trans (hb9.mono HBs.out.size))
            clear hq hb9 QI hcI p0
            go_wp2_with fail
            go_roundw
            case rel => exact ⟨z + 1, by omega, by go_num, HRQ9⟩
            case measure => simp [intOf]; omega
          · obtain rfl : z = rI.length := by omega
            have HOk2 := Lib.hid (HOB.out.below HBk2.out hbl)
            have m0 := HOk2.out.cell 0
            have m1 := HOk2.out.cell 1
            have m2 := HOk2.out.cell 2
            have m3 := HOk2.out.cell 3
            have m4 := HOk2.out.cell 4
            have m5 := HOk2.out.cell 5
            have m6 := HOk2.out.cell 6
            have m7 := HOk2.out.cell 7
            have m8 := HOk2.out.cell 8
            simp only [List.getElem?_cons_succ, List.getElem?_cons_zero] at m0 m1 m2 m3 m4 m5 m6 m7 m8
            have HC0 := Lib.hid (show Rise S ∧ (∀ x ∈ S, x ∈ allP ⟨nm, rs, ps, vs, bl⟩) ∧ ∀ x, x ∈ S ↔ x ∈ S ∨ x ∈ setsL (b.code.take 0) from ⟨HUN.out.1, HUN.out.2.1, fun x => by simp [setsL]⟩)
            obtain ⟨S1, hS1⟩ : ∃ S1, S = S1 := ⟨_, rfl⟩
            have HUN1 := Lib.hid (show ∀ x, x ∉ S1 → UnF ⟨nm, rs, ps, vs, bl⟩ i x from hS1 ▸ HUN.out.2.2)
            have HC1 := Lib.hid (show Rise S ∧ (∀ x ∈ S, x ∈ allP ⟨nm, rs, ps, vs, bl⟩) ∧ ∀ x, x ∈ S ↔ x ∈ S1 ∨ x ∈ setsL (b.code.take 0) from hS1 ▸ HC0.out)
            clear hS1 HC0 HUN HIN HSO HOk HBw
            go_wp2_with fail
            go_loopw [6, 13] (fun sv iv wr => ∃ (k : Nat) (S : List Wd) (AS : Option Addr) (cS base : Nat), k ≤ b.code.length ∧ iv = .int .i64 k ∧ sv = .slice AS S.length cS ∧ Hid (Rise S ∧ (∀ x ∈ S, x ∈ allP ⟨nm, rs, ps, vs, bl⟩) ∧ ∀ x, x ∈ S ↔ x ∈ S1 ∨ x ∈ setsL (b.code.take k)) ∧ Hid (wr.ownsRow base 9 1 (.slice AS S.length cS) S.length (S.map str)) ∧ Hid (Below Wb.heap.size Wb wr)) (fun _ iv _ => b.code.length - (intOf iv).toNat)
            case atStart => exact ⟨0, S, AS, cS, _, Nat.zero_le _, rfl, rfl, HC1, HSO2, HBk2⟩
            case round =>
            clear HC1 HSO2 HBk2 HOk2 HBk HBs hcI m0 m1 m2 m3 m4 m5 m6 m7 m8 hSl
            obtain ⟨k, S, AS, cS, baseS, hk, rfl, rfl, HS, HSO, HBk⟩ := hrel
            have HOk := Lib.hid (HOB.out.below HBk.out hbl)
            have HBw := Lib.hid (HBW.out.trans (HBk.out.mono (Nat.le_of_lt hzw)))
            have hSl : S.length ≤ 1000000000000 := size_all (f := ⟨nm, rs, ps, vs, bl⟩) HU.out HS.out.1 HS.out.2.1
            have m0 := HOk.out.cell 0
            have m1 := HOk.out.cell 1
            have m2 := HOk.out.cell 2
            have m3 := HOk.out.cell 3
            have m4 := HOk.out.cell 4
            have m5 := HOk.out.cell 5
            have m6 := HOk.out.cell 6
            have m7 := HOk.out.cell 7
            have m8 := HOk.out.cell 8
            simp only [List.getElem?_cons_succ, List.getElem?_cons_zero] at m0 m1 m2 m3 m4 m5 m6 m7 m8
            by_cases hlt : k < b.code.length
            · obtain ⟨y, hy⟩ : ∃ y, b.code[k]? = some y := ⟨_, List.getElem?_eq_getElem hlt⟩
              obtain ⟨b6, o6, rfl, hb6, cs6, hcl6, hcs6, v1, v2, v3, rfl, j1, j2, j3⟩ := row_at KCO.out hy
              obtain ⟨n0, n1, n2, n3, n4, n5⟩ := at6 (cells_later hcs6 HBw.out hb6)
              have QP := Lib.hid (fun (W' : World) (hb : Below wr.heap.size wr W') => put12_any _ _ W' _ S y.dst (texts_own (own_below HSO.out hb) rfl (by omega)) (Nat.le_refl _) hSl)
              by_cases hd : y.dst = []
              · have HY := Lib.hid (show Rise S ∧ (∀ x ∈ S, x ∈ allP ⟨nm, rs, ps, vs, bl⟩) ∧ ∀ x, x ∈ S ↔ x ∈ S1 ∨ x ∈ setsL (b.code.take (k + 1)) from ⟨HS.out.1, HS.out.2.1, fun x => by rw [HS.out.2.2 x, sets_step hy x]; simp [hd]⟩)
                have e1 : (!y.dst.isEmpty) = false := by rw [hd]; rfl
                clear hy hcs6 j1 j2 j3 QP hd
                go_wp2_with fail
                go_roundw
                case rel => exact ⟨k + 1, S, AS, cS, _, by omega, by go_num, rfl, HY, HSO, HBk⟩
                case measure => simp [intOf]; omega
              · have HY := Lib.hid (show Rise (putV S y.dst) ∧ (∀ x ∈ putV S y.dst, x ∈ allP ⟨nm, rs, ps, vs, bl⟩) ∧ ∀ x, x ∈ putV S y.dst ↔ x ∈ S1 ∨ x ∈ setsL (b.code.take (k + 1)) from ⟨putV_rise HS.out.1 _, put_all HS.out.2.1 (HOK.out.uI b (List.mem_of_getElem? HX.out) y (List.mem_of_getElem? hy)).1, fun x => by rw [putV_mem, HS.out.2.2 x, sets_step hy x, or_assoc]; simp [hd]⟩)
                have e1 : (!y.dst.isEmpty) = true := by cases hx2 : y.dst with
                  | nil => exact absurd hx2 hd
                  | cons => rfl
                clear hy hcs6 j1 j2 j3 hd
                go_wp2_with fail
                refine (QP.out wr (Below.refl _ _)).mono ?_
                rintro e w9 ⟨v9, rfl, ho9, hb9⟩
                obtain ⟨A9, c9, rfl⟩ := row_form ho9
                have HO9 := Lib.hid ho9
                have HB9 := Lib.hid (HBk.out.trans (hb9.mono HBk.out.size))
                clear ho9 hb9 QP n0 n1 n2 n3 n4 n5 m0 m1 m2 m3 m4 m5 m6 m7 m8
                go_wp2_with fail
                go_roundw
                case rel => exact ⟨k + 1, _, A9, c9, _, by omega, by go_num, rfl, HY, HO9, HB9⟩
                case measure => simp [intOf]; omega
            · obtain rfl : k = b.code.length := by omega
              have HSF := Lib.hid (show Rise S ∧ (∀ x ∈ S, x ∈ allP ⟨nm, rs, ps, vs, bl⟩) ∧ ∀ x, x ∈ S ↔ x ∈ S1 ∨ x ∈ setsL b.code from ⟨HS.out.1, HS.out.2.1, fun x => by have := HS.out.2.2 x; rwa [List.take_length] at this⟩)
              clear HS hlt hk
              have HOf := Lib.hid (HOW.out.below HBk.out hzw)
              have f0 := HOf.out.cell 0
              have f1 := HOf.out.cell 1
              have f2 := HOf.out.cell 2
              have f3 := HOf.out.cell 3
              have f4 := HOf.out.cell 4
              simp only [List.getElem?_cons_succ, List.getElem?_cons_zero] at f0 f1 f2 f3 f4
              by_cases hnl : n = ts.length
              · have ea : ((n : Int) == (ts.length : Int)) = true := by simp [hnl]
                go_wp2_with fail
                go_ret
                exact ⟨rfl, HBw.out⟩
              · have ea : ((n : Int) == (ts.length : Int)) = false := by simp; omega
                have hnlt : n < ts.length := by omega
                by_cases hd0 : b.fin.dest.length = 0
                · have eb : ((b.fin.dest.length : Int) == 0) = true := by simp [hd0]
                  go_wp2_with fail
                  go_ret
                  exact ⟨rfl, HBw.out⟩
                · have eb : ((b.fin.dest.length : Int) == 0) = false := by simpa using hd0
                  have hd1 : 0 < b.fin.dest.length := by omega
                  obtain ⟨tb, htb⟩ : ∃ y, ts[n]? = some y := ⟨_, List.getElem?_eq_getElem hnlt⟩
                  obtain ⟨bt, ot, rfl, hbt, cst, hclt, hcst, et⟩ := row_at KT.out htb
                  subst et
                  have p0 := cells_later hcst HBw.out hbt 0 _ rfl
                  simp only [Nat.mul_one, Nat.add_zero] at p0
                  have htl9 : b.fin.dest.length ≤ 4611686018427387903 := HTL.out
                  have ew := IntWalk.i64_in ((b.fin.dest.length : Int) - 1) ⟨by omega, by omega⟩
                  clear hcst htb hd0
                  cases tb with
                  | false =>
                    obtain ⟨d, hxd⟩ : ∃ x, b.fin.dest[0]? = some x := ⟨_, List.getElem?_eq_getElem hd1⟩
                    obtain ⟨b8, o8, rfl, hb8, cs8, hcl8, hcs8, rfl⟩ := row_at KTO.out hxd
                    have n0 := cells_later hcs8 HBw.out hb8 0 _ rfl
                    simp only [Nat.mul_one, Nat.add_zero, Nat.zero_mul] at n0
                    have hdm := List.mem_of_getElem? hxd
                    obtain ⟨t, ht⟩ : ∃ t, plc (names bl) d = some t := by
                      cases e : plc (names bl) d with
                      | none => exact absurd (HOK.out.dn b (List.mem_of_getElem? HX.out) d hdm) (plc_none.1 e)
                      | some t => exact ⟨t, rfl⟩
                    have htl : t < bl.length := by have := plc_lt ht; rwa [names_len] at this
                    have QP := Lib.hid (fun (W' : World) (hb : Below wr.heap.size wr W') => rplace_any 0 w.heap.size W' _ _ (FuncC.move (Still.of_below (HBw.out.trans (hb.mono HBw.out.size))) HF0.out) (HBw.out.trans (hb.mono HBw.out.size)).size d)
                    simp only [ht, plN, plB, Option.getD_some, Option.isSome_some] at QP
                    have HAN := Lib.hid (show Rise S ∧ (∀ x ∈ S, x ∈ allP ⟨nm, rs, ps, vs, bl⟩) ∧ ∀ c, bl[t]? = some c → Ahead ⟨nm, rs, ps, vs, bl⟩ c t S from ⟨HSF.out.1, HSF.out.2.1, fun c hc => ahead_next HX.out hc hdm ht HUN1.out HSF.out.2.2⟩)
                    clear hxd hcs8 ht hdm
                    go_wp2_with fail
                    go_region_held3 (fun w' => (w'.cell? ⟨w.heap.size, 0, none⟩ = some (str nm) ∧ w'.cell? ⟨w.heap.size, 1, none⟩ = some (str rs) ∧ w'.cell? ⟨w.heap.size, 2, none⟩ = some (.slice A1 ps.length k1) ∧ w'.cell? ⟨w.heap.size, 3, none⟩ = some (.slice A2 vs.length k2) ∧ w'.cell? ⟨w.heap.size, 4, none⟩ = some (.slice (some ⟨b3, o3, none⟩) bl.length k3) ∧ w'.cell? ⟨b8, o8, none⟩ = some (str d) ∧ w'.cell? ⟨bb, 7, none⟩ = some (.slice (some ⟨b8, o8, none⟩) b.fin.dest.length k7)) ∧ Hid (Below wr.heap.size wr w'))
                      (first | exact ⟨⟨f0, f1, f2, f3, f4, n0, m7⟩, Lib.hid (Below.refl _ _).drew⟩ | exact ⟨⟨f0, f1, f2, f3, f4, n0, m7⟩, Lib.hid (Below.refl _ _)⟩ | exact seven_next hb (by assumption))
                      (first | (go_at_call 11; (with_reducible refine (QP.out _ (Hid.out (And.right (by assumption)))).mono ?_); rintro e w' ⟨rfl, hb⟩))
                    rename_i hHeld
                    obtain ⟨-, HRp⟩ := hHeld
                    have HBp := Lib.hid (HB3W.out.trans ((HBk.out.trans (HRp.out.mono HBk.out.size)).mono HB3W.out.size))
                    have HSO9 := Lib.hid (own_below HSO.out HRp.out)
                    clear f0 f1 f2 f3 f4 m0 m1 m2 m3 m4 m5 m6 m7 m8 n0 p0 QP
                    go_wp2_with fail
                    go_roundw
                    case rel => exact ⟨n + 1, t, S, AS, cS, _, by omega, by go_num, rfl, htl, rfl, HAN, HSO9, HBp⟩
                    case measure => simp [intOf]; omega
                  | true =>
                    obtain ⟨jj, hjj⟩ : ∃ jj : Nat, b.fin.dest.length = jj + 1 := ⟨b.fin.dest.length - 1, by omega⟩
                    have ej : (b.fin.dest.length : Int) - 1 = (jj : Int) := by omega
                    have hjl : jj < b.fin.dest.length := by omega
                    have ew2 := ew.trans ej
                    have hj0 : (0 : Int) ≤ (jj : Int) := by omega
                    have hj1 : (jj : Int) ≤ (b.fin.dest.length : Int) := by omega
                    clear hjj ej ew
                    obtain ⟨d, hxd⟩ : ∃ x, b.fin.dest[jj]? = some x := ⟨_, List.getElem?_eq_getElem hjl⟩
                    obtain ⟨b8, o8, rfl, hb8, cs8, hcl8, hcs8, rfl⟩ := row_at KTO.out hxd
                    have n0 := cells_later hcs8 HBw.out hb8 0 _ rfl
                    simp only [Nat.mul_one, Nat.add_zero, Nat.zero_mul] at n0
                    have hdm := List.mem_of_getElem? hxd
                    obtain ⟨t, ht⟩ : ∃ t, plc (names bl) d = some t := by
                      cases e : plc (names bl) d with
                      | none => exact absurd (HOK.out.dn b (List.mem_of_getElem? HX.out) d hdm) (plc_none.1 e)
                      | some t => exact ⟨t, rfl⟩
                    have htl : t < bl.length := by have := plc_lt ht; rwa [names_len] at this
                    have QP := Lib.hid (fun (W' : World) (hb : Below wr.heap.size wr W') => rplace_any 0 w.heap.size W' _ _ (FuncC.move (Still.of_below (HBw.out.trans (hb.mono HBw.out.size))) HF0.out) (HBw.out.trans (hb.mono HBw.out.size)).size d)
                    simp only [ht, plN, plB, Option.getD_some, Option.isSome_some] at QP
                    have HAN := Lib.hid (show Rise S ∧ (∀ x ∈ S, x ∈ allP ⟨nm, rs, ps, vs, bl⟩) ∧ ∀ c, bl[t]? = some c → Ahead ⟨nm, rs, ps, vs, bl⟩ c t S from ⟨HSF.out.1, HSF.out.2.1, fun c hc => ahead_next HX.out hc hdm ht HUN1.out HSF.out.2.2⟩)
                    clear hxd hcs8 ht hdm
                    go_wp2_with fail
                    go_region_held3 (fun w' => (w'.cell? ⟨w.heap.size, 0, none⟩ = some (str nm) ∧ w'.cell? ⟨w.heap.size, 1, none⟩ = some (str rs) ∧ w'.cell? ⟨w.heap.size, 2, none⟩ = some (.slice A1 ps.length k1) ∧ w'.cell? ⟨w.heap.size, 3, none⟩ = some (.slice A2 vs.length k2) ∧ w'.cell? ⟨w.heap.size, 4, none⟩ = some (.slice (some ⟨b3, o3, none⟩) bl.length k3) ∧ w'.cell? ⟨b8, o8 + jj, none⟩ = some (str d) ∧ w'.cell? ⟨bb, 7, none⟩ = some (.slice (some ⟨b8, o8, none⟩) b.fin.dest.length k7)) ∧ Hid (Below wr.heap.size wr w'))
                      (first | exact ⟨⟨f0, f1, f2, f3, f4, n0, m7⟩, Lib.hid (Below.refl _ _).drew⟩ | exact ⟨⟨f0, f1, f2, f3, f4, n0, m7⟩, Lib.hid (Below.refl _ _)⟩ | exact seven_next hb (by assumption))
                      (first | (go_at_call 11; (with_reducible refine (QP.out _ (Hid.out (And.right (by assumption)))).mono ?_); rintro e w' ⟨rfl, hb⟩))
                    rename_i hHeld
                    obtain ⟨-, HRp⟩ := hHeld
                    have HBp := Lib.hid (HB3W.out.trans ((HBk.out.trans (HRp.out.mono HBk.out.size)).mono HB3W.out.size))
                    have HSO9 := Lib.hid (own_below HSO.out HRp.out)
                    clear f0 f1 f2 f3 f4 m0 m1 m2 m3 m4 m5 m6 m7 m8 n0 p0 QP
                    go_wp2_with fail
                    go_roundw
                    case rel => exact ⟨n + 1, t, S, AS, cS, _, by omega, by go_num, rfl, htl, rfl, HAN, HSO9, HBp⟩
                    case measure => simp [intOf]; omega

set_option maxRecDepth 100000 in
theorem lifted (os : Os) (started : os.Started) (H : Type) (enc : TypeId × Value → H) :
    ReturnsInHanded {} Try.checked os 3 .any (Rows.assignWaysSpec.pre6 enc Try.prog Try.f3 Rows.assignWaysRow.domain false) (Rows.assignWaysSpec.post enc Try.prog Try.f3 false true false false) := by
  refine returnsInHanded_of_change_sized (C := Try.checked) (by kernel_rfl) started (by kernel_rfl) Try.func3
    (ChangeSpec.witness6 (enc := enc) (C := Try.checked) false ⟨#[], #[.agg #[.string ⟨#[]⟩, .string ⟨#[]⟩, .slice none 0 0, .slice none 0 0, .slice none 0 0], .slice none 0 0], []⟩ 8 (by kernel_rfl) (by kernel_rfl) (by kernel_rfl) (by kernel_rfl)) ?_
  intro W base args ds gs before hval0 hW hcnd hsz0 _
  have hval : ∀ (j : Nat) t v, Try.f3.params[j]? = some t → args[j]? = some v → Value.okWide Try.prog W .any base t v := hval0
  have hW' := hW
  obtain ⟨p, q, hA0, hV, rfl, hfz, hnd⟩ := hW
  have hsz : (DataW.weightsEach Try.prog (Try.f3.params.toList ++ Rows.assignWaysSpec.plain.varTypes Try.prog) (ds ++ gs)).all (· ≤ reachBytes) = true := hsz0
  have hA : DataW.TrodAll enc Try.prog W 0 (fun _ => true) true Try.f3.params.toList args.toList ds p := hA0
  rw [Try.params3] at hA hval hsz
  obtain ⟨v0, vs0, d0, ds0, p0, q0, hargs, rfl, rfl, h0, r0⟩ := trodAll_cons hA
  obtain ⟨v1, vs1, d1, ds1, p1, q1, rfl, rfl, rfl, h1, r1⟩ := trodAll_cons r0
  obtain ⟨rfl, rfl, rfl⟩ := trodAll_nil r1
  obtain rfl : args = #[v0, v1] := by cases args; simp_all
  obtain ⟨rfl, rfl⟩ := trodVars_none hV
  obtain ⟨xs0, hG0⟩ := OpenP.open_func hsz (j := 0) rfl rfl (hval 0 25 v0 rfl rfl) h0
  obtain ⟨xs1, hG1⟩ := OpenB.open_bools hsz (j := 1) rfl rfl (hval 1 26 v1 rfl rfl) h1
  clear hA0 hval0
  simp only [List.append_nil] at hW'
  refine (walk v0 xs0 v1 xs1 hG0 hG1).mono fun e W' ⟨he, hg⟩ => ?_
  subst he
  exact ⟨_, rfl, Shell.lawPost (by kernel_rfl) rfl (by kernel_rfl) rfl Try.underlying4 hW' rfl hg⟩

/-- The statement. -/
theorem proved : Rows.AssignWaysSaid :=
  OpenClaim.holds_of_wide 3 Try.f3 rfl rfl rfl rfl rfl rfl rfl ⟨rfl, rfl, rfl, rfl, rfl⟩ rfl rfl rfl rfl rfl (by kernel_rfl) Try.func3 (by kernel_rfl)
    (of_decide_eq_true (by kernel_rfl)) (by unfold Func.isWrapper; first | (rw [if_pos (by decide +kernel)]; kernel_rfl) | (rw [if_neg (by decide +kernel)]; exact ⟨rfl, rfl⟩))
    (fun os started H enc _ => lifted os started H enc)
end Go.Proofs.Ytaeklfljibjpiaa.assignWays
