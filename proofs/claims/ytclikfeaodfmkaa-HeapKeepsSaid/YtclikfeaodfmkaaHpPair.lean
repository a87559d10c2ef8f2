/-
  Layer 15: package heap's pairing, walked.
-/
import Derived.Test.YtclikfeaodfmkaaHpMap
import Derived.Test.YtclikfeaodfmkaaHpFind
import Derived.Test.YtclikfeaodfmkaaShMap
import Derived.Deep.RegionHeld3
namespace Go.Proofs.Ytclikfeaodfmkaa.Hp15
open Go.RowKit Api Mem Go.Maps

/-- what a method of a pairing answers. -/
def PairP (h k : Hp) (T : PT) (q : List Int) (G : (Int → Int → Prop) → Prop) (B pb : Nat) (v1 v2 : Value) (g1 g2 : Nat) (w : World) (e : Ending) (w' : World) : Prop :=
  ∃ b : Bool, e = .returned (.bool b) ∧ (b = true → ∃ T' q' vr', Step h k T q T' q' G ∧ PM w' B pb v1 v2 vr' g1 g2 T' q') ∧ (b = false → Fails T G) ∧ Below B w w'
theorem i64_look {P : Program} (w : World) {ops : Array Oper} {rest : List Oper} {o : Oper} {a : Go.Act} {Q : Exit → Go.Act → World → Prop} (hg : o.guard = none) (m x : Operand) (t : TypeId) (hop : o.op = Op.lookup t m x true)
    (k e : TypeId) (K : Keyed P k) (ht : P.underlying t = some (.map k e)) (he : P.underlying e = some (.int .i64)) (hz : (zeroValue e).run P w = .ok (.int .i64 0) w) (b n : Nat) (D : DataW Unit)
    (hm : a.eval m = .map (some b)) (hown : w.ownsMap P k (plainElem P e) b n D) (key : Value) (kl : Lit) (hx : a.eval x = key) (hkey : keyOf P k key = some kl)
    (c : Int) (hat : D.atKey kl (dI 0) = dI c) (d : Bool) (hd : has D kl = d) (hK : wpList P ops Q rest (a.put o.dst (.tuple #[.int .i64 c, .bool d])) w) :
    wpList P ops Q (o :: rest) a w :=
  wpList_lookup_own_ok_int w hg m x t hop k e .i64 K ht he hz b n D hm hown key kl hx hkey (fun c' h1 _ => by
    rw [hat] at h1
    injection h1 with h1
    injection h1 with _ h1
    rw [hd, ← h1]
    exact hK)
set_option maxRecDepth 100000 in
set_option maxHeartbeats 8000000 in
theorem pair_any {h k : Hp} {T : PT} {q : List Int} {w : World} {B pb : Nat} {v1 v2 vr : Value} {g1 g2 : Nat} {n m : Int} {o p : Ob} (hM : PM w B pb v1 v2 vr g1 g2 T q) (hB : Base h k T) (hn : NumM.In n) (hm : NumM.In m) (ho : objAt h n = some o) (hp : objAt k m = some p) (hl : q.length ≤ 1000000) (hT : T.length ≤ 1000000) (hBw : B ≤ w.heap.size) :
    Calls Try.prog 27 #[.pointer (some ⟨pb, 0, none⟩), i64 n, i64 m] w (PairP h k T q (fun P => P n m) B pb v1 v2 g1 g2 w) := by
  obtain ⟨c1, d1, a1, a2, a3⟩ := look_tab hB.fst n
  obtain ⟨c2, d2, b1, b2, b3⟩ := look_tab (T := T.map Prod.swap) (by rw [List.map_map]; exact hB.snd) m
  obtain ⟨Ar, cr, rfl⟩ := row_form15 hM.row
  have HM := Lib.hid hM
  have HB := Lib.hid hB
  have HK1 := Lib.hid (key_int hn)
  have HK2 := Lib.hid (key_int hm)
  have A1 := Lib.hid a1
  have A2 := Lib.hid a2
  have A3 := Lib.hid a3
  have B1 := Lib.hid b1
  have B2 := Lib.hid b2
  have B3 := Lib.hid b3
  have HO := Lib.hid ho
  have HP := Lib.hid hp
  obtain ⟨ii, hi1, hi2, hi3, hi4⟩ := info_parts info_i64
  have HII : Hid (Try.prog.info? 2 = some ii ∧ ii.zero = some (.int .i64 0) ∧ ii.size = 1 ∧ ii.bytes = 8) := Lib.hid ⟨hi1, hi2, hi3, hi4⟩
  obtain ⟨p0, p1, p2, p3, p4⟩ := hM.cells
  clear hi1 hi2 hi3 hi4
  have HIN := Lib.hid hn
  have HIM := Lib.hid hm
  have HBw := Lib.hid hBw
  clear hM hB hn hm hBw a1 a2 a3 b1 b2 b3 ho hp
  cases d1 with
  | true =>
    have hA : (n, c1) ∈ T := by
      rcases A3.out with h | h
      · exact h.2
      · cases h.1
    by_cases h1 : c1 = m
    · obtain rfl : m = c1 := h1.symm
      have HA := Lib.hid hA
      cases d2 with
      | true =>
        have e1 : n = c2 := by
          have hB2 : (c2, m) ∈ T := by
            rcases B3.out with h | h
            · obtain ⟨p, hp, e⟩ := List.mem_map.1 h.2
              cases p
              injection e with e1 e2
              subst e1
              subst e2
              exact hp
            · cases h.1
          exact (HB.out.inj.2 c2 n m hB2 hA).symm
        subst e1
        clear hA
        go_enter Try.func27, Try.ntmps27
        go_wp2_with (first | (at_lookup; refine i64_look _ rfl _ _ 46 rfl 2 2 lawI Try.underlying46 Try.underlying2 (zeroI64 _) g1 T.length (tabI T) rfl HM.out.m1 (i64 n) _ rfl HK1.out _ A1.out _ A2.out ?_) | (at_lookup; refine i64_look _ rfl _ _ 46 rfl 2 2 lawI Try.underlying46 Try.underlying2 (zeroI64 _) g2 _ (tabI (T.map Prod.swap)) rfl HM.out.m2 (i64 m) _ rfl HK2.out _ B1.out _ B2.out ?_))
        go_ret
        exact ⟨true, rfl, fun _ => ⟨T, q, _, Step.same HB.out HA.out, HM.out⟩, fun h => (by cases h), Below.refl _ _⟩
      | false =>
        exfalso
        rcases B3.out with h | h
        · cases h.1
        · exact h.2.2 (by rw [List.map_map]; exact List.mem_map.2 ⟨(n, m), hA, rfl⟩)
    · have HF := Lib.hid (show Fails T (fun P => P n m) from fails_fst hA h1)
      have e1 : (c1 == m) = false := by simpa using h1
      clear hA
      cases d2 with
      | true =>
        go_enter Try.func27, Try.ntmps27
        go_wp2_with (first | (at_lookup; refine i64_look _ rfl _ _ 46 rfl 2 2 lawI Try.underlying46 Try.underlying2 (zeroI64 _) g1 T.length (tabI T) rfl HM.out.m1 (i64 n) _ rfl HK1.out _ A1.out _ A2.out ?_) | (at_lookup; refine i64_look _ rfl _ _ 46 rfl 2 2 lawI Try.underlying46 Try.underlying2 (zeroI64 _) g2 _ (tabI (T.map Prod.swap)) rfl HM.out.m2 (i64 m) _ rfl HK2.out _ B1.out _ B2.out ?_))
        go_ret
        exact ⟨false, rfl, fun h => (by cases h), fun _ => HF.out, Below.refl _ _⟩
      | false =>
        go_enter Try.func27, Try.ntmps27
        go_wp2_with (first | (at_lookup; refine i64_look _ rfl _ _ 46 rfl 2 2 lawI Try.underlying46 Try.underlying2 (zeroI64 _) g1 T.length (tabI T) rfl HM.out.m1 (i64 n) _ rfl HK1.out _ A1.out _ A2.out ?_) | (at_lookup; refine i64_look _ rfl _ _ 46 rfl 2 2 lawI Try.underlying46 Try.underlying2 (zeroI64 _) g2 _ (tabI (T.map Prod.swap)) rfl HM.out.m2 (i64 m) _ rfl HK2.out _ B1.out _ B2.out ?_))
        go_ret
        exact ⟨false, rfl, fun h => (by cases h), fun _ => HF.out, Below.refl _ _⟩
  | false =>
    have hA : n ∉ T.map (·.1) := by
      rcases A3.out with h | h
      · cases h.1
      · exact h.2.2
    cases d2 with
    | true =>
      have hB2 : (c2, m) ∈ T := by
        rcases B3.out with h | h
        · obtain ⟨p, hp, e⟩ := List.mem_map.1 h.2
          cases p
          injection e with e1 e2
          subst e1
          subst e2
          exact hp
        · cases h.1
      have HF := Lib.hid (show Fails T (fun P => P n m) from fails_snd hB2 (fun e => hA (List.mem_map.2 ⟨(c2, m), hB2, e⟩)))
      clear hA hB2
      go_enter Try.func27, Try.ntmps27
      go_wp2_with (first | (at_lookup; refine i64_look _ rfl _ _ 46 rfl 2 2 lawI Try.underlying46 Try.underlying2 (zeroI64 _) g1 T.length (tabI T) rfl HM.out.m1 (i64 n) _ rfl HK1.out _ A1.out _ A2.out ?_) | (at_lookup; refine i64_look _ rfl _ _ 46 rfl 2 2 lawI Try.underlying46 Try.underlying2 (zeroI64 _) g2 _ (tabI (T.map Prod.swap)) rfl HM.out.m2 (i64 m) _ rfl HK2.out _ B1.out _ B2.out ?_))
      go_ret
      exact ⟨false, rfl, fun h => (by cases h), fun _ => HF.out, Below.refl _ _⟩
    | false =>
      have hB2 : m ∉ T.map (·.2) := by
        rcases B3.out with h | h
        · cases h.1
        · intro hm
          obtain ⟨p, hp, e⟩ := List.mem_map.1 hm
          exact h.2.2 (by rw [List.map_map]; exact List.mem_map.2 ⟨p, hp, e⟩)
      have HS := Lib.hid (show Step h k T q (T ++ [(n, m)]) (q ++ [n]) (fun P => P n m) from step_pair HB.out hA hB2 HO.out HP.out)
      clear hA hB2
      go_enter Try.func27, Try.ntmps27
      go_wp2_with (first | (at_lookup; refine i64_look _ rfl _ _ 46 rfl 2 2 lawI Try.underlying46 Try.underlying2 (zeroI64 _) g1 T.length (tabI T) rfl HM.out.m1 (i64 n) _ rfl HK1.out _ A1.out _ A2.out ?_) | (at_lookup; refine i64_look _ rfl _ _ 46 rfl 2 2 lawI Try.underlying46 Try.underlying2 (zeroI64 _) g2 _ (tabI (T.map Prod.swap)) rfl HM.out.m2 (i64 m) _ rfl HK2.out _ B1.out _ B2.out ?_))
      obtain ⟨wa, s1, hr1, ga1, f1⟩ := entry_new lawI Try.underlying46 (show w.drew.ownsMap Try.prog 2 (plainElem Try.prog 2) g1 T.length (tabI T) from HM.out.m1) (by unfold maxLen; omega) HK1.out (plainElem_int Try.underlying2 (WalkArith.wf_i64 HIM.out)) zeroI64 A2.out
      have hg1a : g1 < wa.heap.size := Nat.lt_of_lt_of_le HM.out.m1.lt ga1.size
      obtain ⟨wb, hr3, o1, gb1⟩ := f1 wa rfl
      have ne2 : (some g2 : Option Nat) ≠ some g1 := by simp only [ne_eq, Option.some.injEq]; exact fun e => HM.out.ne e.symm
      have ne1 : (some g1 : Option Nat) ≠ some g2 := by simp only [ne_eq, Option.some.injEq]; exact HM.out.ne
      have hmb : MO wb g2 (T.map Prod.swap) := (HM.out.m2.block (ga1.block g2 HM.out.m2.lt ne2)).block (gb1.block g2 (Nat.lt_of_lt_of_le HM.out.m2.lt ga1.size) ne2)
      obtain ⟨wc, s2, hr2, gc1, f2⟩ := entry_new lawI Try.underlying46 (show wb.ownsMap Try.prog 2 (plainElem Try.prog 2) g2 (T.map Prod.swap).length (tabI (T.map Prod.swap)) from hmb) (by rw [List.length_map]; unfold maxLen; omega) HK2.out (plainElem_int Try.underlying2 (WalkArith.wf_i64 HIN.out)) zeroI64 B2.out
      obtain ⟨wd, hr4, o2, gd1⟩ := f2 wc rfl
      have hg1b : g1 < wb.heap.size := Nat.lt_of_lt_of_le hg1a gb1.size
      have hg1c : g1 < wc.heap.size := Nat.lt_of_lt_of_le hg1b gc1.size
      have HM2 := Lib.hid (HM.out.turn_both (w' := wd) (n := n) (m := m) ((show MO wb g1 (T ++ [(n, m)]) by unfold MO; rw [tabI_snoc, List.length_append]; exact o1).block ((gd1.block g1 hg1c ne1).trans (gc1.block g1 hg1b ne1))) (by unfold MO; rw [tabI_snoc, List.length_append]; exact o2) (fun b hb n1 n2 => by
        have e1 : some b ≠ some g1 := by simp only [ne_eq, Option.some.injEq]; exact n1
        have e2 : some b ≠ some g2 := by simp only [ne_eq, Option.some.injEq]; exact n2
        have k1 := Nat.lt_of_lt_of_le hb ga1.size
        have k2 := Nat.lt_of_lt_of_le k1 gb1.size
        have k3 := Nat.lt_of_lt_of_le k2 gc1.size
        exact (gd1.block b k3 e2).trans ((gc1.block b k2 e2).trans ((gb1.block b k1 e1).trans (ga1.block b hb e1)))))
      have HG2 := Lib.hid (show Below B w wd from by
        have z1 : B ≤ wa.heap.size := Nat.le_trans HBw.out ga1.size
        have z2 : B ≤ wb.heap.size := Nat.le_trans z1 gb1.size
        have z3 : B ≤ wc.heap.size := Nat.le_trans z2 gc1.size
        exact (((((Below.refl B w).drew).grown ga1 HBw.out (fun j hj => by injection hj with hj; subst hj; exact HM.out.b2)).grown gb1 z1 (fun j hj => by injection hj with hj; subst hj; exact HM.out.b2)).grown gc1 z2 (fun j hj => by injection hj with hj; subst hj; exact HM.out.b3)).grown gd1 z3 (fun j hj => by injection hj with hj; subst hj; exact HM.out.b3))
      clear o1 o2 ga1 gb1 gc1 gd1 f1 f2 hmb hg1a hg1b hg1c ne1 ne2
      go_region
      obtain ⟨wz, hwz⟩ : ∃ wz, wz = wd := ⟨_, rfl⟩
      subst hwz
      obtain ⟨k0, k1, k2, k3, k4⟩ := HM2.out.cells
      clear hr1 hr2 hr3 hr4
      go_wp2_with ((at_builtin; refine push15_at rfl _ _ 47 rfl B 2 ii (.int .i64 0) 1 8 Try.underlying47 HII.out.1 HII.out.2.1 HII.out.2.2.1 HII.out.2.2.2 rfl Nat.one_pos (.slice Ar q.length cr) q.length (q.map i64) rfl HM2.out.row [i64 n] wz.heap.size rfl rfl rfl (by intro u hu; rw [List.mem_singleton] at hu; subst hu; rfl) (by unfold maxLen; omega) (by omega) (Nat.le_trans HBw.out HG2.out.size) ?_; intro v8 w8 hr8 hg8; obtain ⟨A8, c8, e8⟩ := row_form15 hr8; subst e8; have hbx := HM2.out.box_at hg8; have HM8 := Lib.hid (HM2.out.turn_row (q' := q ++ [n]) hg8 (by rw [List.length_append, List.map_append]; exact hr8)); have HG8 := Lib.hid (show Below B w w8 from HG2.out.grown hg8 (Nat.le_trans HBw.out HG2.out.size) (fun j hj => (World.ownsRow.lt HM2.out.row j hj).1)); have x4 := hbx.cell 4; have x5 := hbx.thaw 4; simp only [List.getElem?_cons_succ, List.getElem?_cons_zero] at x4; have x6 := hbx.lt; clear hr8 hg8 hbx))
      go_ret
      exact ⟨true, rfl, fun _ => ⟨_, _, _, HS.out, HM8.out⟩, fun h => (by cases h), HG8.out.setCell (p := ⟨pb, 4, none⟩) HM.out.b1 _⟩
end Go.Proofs.Ytclikfeaodfmkaa.Hp15
