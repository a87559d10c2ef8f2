/-
  Layer 8: the program's Right.
-/
import Derived.Test.YtdmjghhgmpnacaaShCome
import Derived.Test.YtdmjghhgmpnacaaShPlaces
namespace Go.Proofs.Ytdmjghhgmpnacaa.Sh8
open Go.RowKit Api Mem Go.Maps

theorem len_at {P : Program} (w : World) {ops : Array Oper} {rest : List Oper} {o : Oper} {a : Go.Act} {Q : Exit → Go.Act → World → Prop} (hg : o.guard = none) (m : Operand) (t : TypeId) (hop : o.op = Op.call { callee := Callee.builtin Builtin.len, args := #[m], argTypes := #[t] })
    (k e : TypeId) (ht : P.underlying t = some (.map k e)) (R : Value → Option (DataW Unit × List MemPlace)) (b n : Nat) (D : DataW Unit) (hm : a.eval m = .map (some b)) (hown : w.ownsMap P k R b n D) (s : Nat) (hs : Go.Maps.size D = s)
    (hK : wpList P ops Q rest (a.put o.dst (.int .i64 (s : Int))) w) : wpList P ops Q (o :: rest) a w :=
  wpList_len_own w hg m t hop k e ht R b n D hm hown (by rw [hs]; exact hK)
theorem len_run {P : Program} {k e t : TypeId} (ht : P.underlying t = some (.map k e)) {R : Value → Option (DataW Unit × List MemPlace)} {w : World} {b n : Nat} {D : DataW Unit} (hown : w.ownsMap P k R b n D) (ty : TypeId) {s : Nat} (hs : Go.Maps.size D = s) : (Builtin.len_ #[t] ty #[.map (some b)]).run P w = .ok (.int .i64 (s : Int)) w := by
  rw [← hs]
  exact hown.len ht ty
set_option maxRecDepth 100000 in
set_option maxHeartbeats 8000000 in
theorem right_any (lo hi : Nat) (w : World) (cs : List Value) (f : Api.Func) (hf : FuncC lo hi w cs f) (hh : hi ≤ w.heap.size) (hn : f.blocks.length ≤ 1099511627776) (hG1 : nmG f.blocks) (hG : toG f.blocks) :
    Calls Try.prog 12 #[.agg cs.toArray] w (BP (RightP f.blocks) w) := by
  have hfc := hf
  obtain ⟨u1, u2, u3, rfl, kp, kv, kb⟩ := hf
  obtain ⟨nm, rs, ps, vs, bl⟩ := f
  simp only at kp kv kb hG hG1 hn hfc ⊢
  obtain ⟨A1, k1, rfl⟩ := kp.form
  obtain ⟨A2, k2, rfl⟩ := kv.form
  obtain ⟨A3, k3, rfl⟩ := kb.form
  obtain ⟨W, hW⟩ : ∃ W, w.alloc (.cells #[str nm, str rs, .slice A1 ps.length k1, .slice A2 vs.length k2, .slice A3 bl.length k3] 25) = W := ⟨_, rfl⟩
  obtain ⟨o1, b1, z1⟩ := box8 (c := [str nm, str rs, .slice A1 ps.length k1, .slice A2 vs.length k2, .slice A3 bl.length k3]) hW
  have hlb : bl.length ≤ 4611686018427387903 := by obtain ⟨_, _, _, h, _⟩ := kb.get; exact h
  have KB := Lib.hid (Blocks.move (Still.of_below (b1.mono hh)) kb)
  have HO := Lib.hid o1
  have HB := Lib.hid b1
  have HW := Lib.hid hW
  have HHW : Hid (hi ≤ W.heap.size) := Lib.hid (by omega)
  have GB := Lib.hid hG
  have zlt := o1.lt
  clear o1 b1 hW kp kv kb hG
  have HF := Lib.hid (FuncC.move (Still.of_below (HB.out.mono hh)) hfc)
  have HN := Lib.hid hn
  have HG1 := Lib.hid hG1
  have hlb2 := hn
  have QP := Lib.hid (places_any lo hi W _ _ HF.out HHW.out HG1.out)
  clear hfc hn hG1
  go_enter Try.func12, Try.ntmps12
  go_wp2_with fail
  rw [HW.out]
  have f0 := HO.out.cell 0
  have f1 := HO.out.cell 1
  have f2 := HO.out.cell 2
  have f3 := HO.out.cell 3
  have f4 := HO.out.cell 4
  simp only [List.getElem?_cons_succ, List.getElem?_cons_zero] at f0 f1 f2 f3 f4
  go_wp2_with fail
  refine QP.out.mono ?_
  rintro e w5 ⟨g, rfl, hg, hm5, hb5⟩
  have HM := Lib.hid hm5
  have HB5 := Lib.hid hb5
  have HO5 := Lib.hid (HO.out.below hb5 HO.out.lt)
  clear f0 f1 f2 f3 f4 hm5 hb5
  have f0 := HO5.out.cell 0
  have f1 := HO5.out.cell 1
  have f2 := HO5.out.cell 2
  have f3 := HO5.out.cell 3
  have f4 := HO5.out.cell 4
  simp only [List.getElem?_cons_succ, List.getElem?_cons_zero] at f0 f1 f2 f3 f4
  by_cases hz : bl.length = 0
  · have hnr : ¬ RightP bl := fun h => h.1 (List.eq_nil_of_length_eq_zero hz)
    have e0 : ((bl.length : Int) == 0) = true := by simpa using hz
    have HNR := Lib.hid hnr
    have HZ := Lib.hid hz
    clear hnr
    have hlen := fun (ty : TypeId) => len_run Try.underlying52 HM.out ty (rfl)
    go_wp2_with fail
    go_ret
    exact ⟨false, rfl, ⟨fun h => (by cases h), fun h => absurd h HNR.out⟩, HB.out.trans (HB5.out.mono HB.out.size)⟩
  · have e0 : ((bl.length : Int) == 0) = false := by simpa using hz
    by_cases hnd : (names bl).Nodup
    · have HSZ := Lib.hid (show size (tab 0 (names bl)) = bl.length by rw [← names_len bl]; exact (tab_size 0 _).2 hnd)
      have HND := Lib.hid hnd
      have HF5 := Lib.hid (FuncC.move (Still.of_below (HB5.out.mono HHW.out)) HF.out)
      have hh5 : hi ≤ w5.heap.size := Nat.le_trans HHW.out HB5.out.size
      have HZ := Lib.hid hz
      have QE := Lib.hid (ends_any lo hi w5 _ _ HF5.out hh5 g bl.length HM.out HN.out GB.out)
      clear hnd
      have hlen := fun (ty : TypeId) => len_run Try.underlying52 HM.out ty (HSZ.out)
      go_wp2_with fail
      refine QE.out.mono ?_
      rintro e w6 ⟨b6, rfl, hb6, hw6⟩
      have HB6 := Lib.hid hw6
      have HO6 := Lib.hid (HO5.out.below hw6 HO5.out.lt)
      clear f0 f1 f2 f3 f4 hw6
      have f0 := HO6.out.cell 0
      have f1 := HO6.out.cell 1
      have f2 := HO6.out.cell 2
      have f3 := HO6.out.cell 3
      have f4 := HO6.out.cell 4
      simp only [List.getElem?_cons_succ, List.getElem?_cons_zero] at f0 f1 f2 f3 f4
      cases b6 with
      | false =>
        have HE6 := Lib.hid hb6
        clear hb6
        go_wp2_with fail
        go_ret
        exact ⟨false, rfl, ⟨fun h => (by cases h), fun h => (by have := HE6.out.2 h.2.2.1; cases this)⟩, HB.out.trans ((HB5.out.trans (HB6.out.mono HB5.out.size)).mono HB.out.size)⟩
      | true =>
        have HE6 := Lib.hid (hb6.1 rfl)
        have HF6 := Lib.hid (FuncC.move (Still.of_below (HB6.out.mono hh5)) HF5.out)
        have hh6 : hi ≤ w6.heap.size := Nat.le_trans hh5 HB6.out.size
        have HM6 := Lib.hid (owns_below HM.out HB6.out HM.out.lt)
        have QC := Lib.hid (come_any lo hi w6 _ _ HF6.out hh6 g bl.length HM6.out HN.out GB.out (by show 0 < bl.length; omega) HND.out HE6.out)
        clear hb6
        go_wp2_with fail
        refine QC.out.mono ?_
        rintro e w7 ⟨b7, rfl, hb7, hw7⟩
        have HE7 := Lib.hid hb7
        have HB7 := Lib.hid hw7
        clear hb7 hw7 f0 f1 f2 f3 f4
        go_wp2_with fail
        go_ret
        exact ⟨b7, rfl, ⟨fun h => ⟨fun e => HZ.out (by rw [e]; rfl), HND.out, HE6.out, HE7.out.1 h⟩, fun h => HE7.out.2 h.2.2.2⟩, HB.out.trans ((HB5.out.trans ((HB6.out.trans (HB7.out.mono HB6.out.size)).mono HB5.out.size)).mono HB.out.size)⟩
    · have hsz : size (tab 0 (names bl)) < bl.length := by
        have h1 := tab_size_le 0 (names bl)
        have h2 : size (tab 0 (names bl)) ≠ (names bl).length := fun e => hnd ((tab_size 0 (names bl)).1 e)
        rw [names_len] at h1 h2
        omega
      have hnr : ¬ RightP bl := fun h => hnd h.2.1
      obtain ⟨s, hs⟩ : ∃ s, size (tab 0 (names bl)) = s := ⟨_, rfl⟩
      rw [hs] at hsz
      have e1 : ((s : Int) == (bl.length : Int)) = false := by simp; omega
      have HNR := Lib.hid hnr
      have HS := Lib.hid hs
      clear hnd hnr hs
      have hlen := fun (ty : TypeId) => len_run Try.underlying52 HM.out ty (HS.out)
      go_wp2_with fail
      go_ret
      exact ⟨false, rfl, ⟨fun h => (by cases h), fun h => absurd h HNR.out⟩, HB.out.trans (HB5.out.mono HB.out.size)⟩
end Go.Proofs.Ytdmjghhgmpnacaa.Sh8
