/-
  Layer 12: going back over what stands in a block.
-/
import Derived.StillTailTactics
import Derived.Test.YtaeklfljibjpiaaLvColl
import Derived.Test.YtaeklfljibjpiaaLpRound
import Derived.Deep.RegionHeld3
import Derived.Deep.RegionLaw
import Derived.RangeFuncWrites
namespace Go.Proofs.Ytaeklfljibjpiaa.Lv12
open Go.RowKit Go.Shelf Api Mem Sh8 Go.Maps
attribute [local go_sem] Oper.semAt_some
abbrev Bl9 := Api.Block
/-- what is live ahead of instructions, of what is behind them. -/
def backL : List Instr → (Wd → Bool) → Wd → Bool
  | [], S => S
  | x :: r, S => backI x (backL r S)
/-- what instructions set. -/
def setsL (l : List Instr) : List Wd := (l.filter fun x => decide (x.dst ≠ [])).map (·.dst)
theorem two_boxes {w W : World} {t1 t2 : TypeId} {c1 c2 : List Value} (h : (w.alloc (.cells c1.toArray t1)).alloc (.cells c2.toArray t2) = W) : Mem.Own W w.heap.size t1 c1 ∧ Mem.Own W (w.heap.size + 1) t2 c2 ∧ Below w.heap.size w W ∧ W.heap.size = w.heap.size + 1 + 1 := by
  subst h
  refine ⟨(Mem.Own.made w t1 c1).alloc _, ?_, ((Below.refl _ _).alloc (Nat.le_refl _) _).alloc (by simp) _, by simp⟩
  have e : (w.alloc (.cells c1.toArray t1)).heap.size = w.heap.size + 1 := by simp
  have := Mem.Own.made (w.alloc (.cells c1.toArray t1)) t2 c2
  rw [e] at this
  exact this
theorem St.drew {U : List Wd} {w : World} {base B n m : Nat} {c : Nat → Nat} {S : Nat → Wd → Bool} {vi : Nat → Value} {li : Nat → List Int} {vg : Nat → Value} {gr : Nat → List Wd} (h : St U w base B n m c S vi li vg gr) : St U w.drew base B n m c S vi li vg gr := h.below (Below.refl _ w).drew
theorem grown_of_drew {w w' : World} {r : Option Nat} (g : w.drew.grownBy w' r) : w.grownBy w' r := ⟨g.os, g.tape, g.output, g.size, g.block⟩
theorem below_of_drew {B : Nat} {w w' : World} (b : Below B w.drew w') : Below B w w' := ⟨b.os, b.tape, b.output, b.size, b.block⟩
theorem upd_swap {α : Type} (f : Nat → α) {i j : Nat} (h : i ≠ j) (a b : α) : upd (upd f i a) j b = upd (upd f j b) i a := funext fun k => by
  unfold upd
  by_cases e1 : k = j
  · subst e1
    rw [if_pos rfl, if_neg (Ne.symm h), if_pos rfl]
  · rw [if_neg e1, if_neg e1]
theorem setsL_cons (x : Instr) (r : List Instr) (S : Wd → Bool) (y : Wd) : orS S (setsL (x :: r)) y = if x.dst = [] then orS S (setsL r) y else addS (orS S (setsL r)) x.dst y := by
  by_cases e : x.dst = []
  · rw [if_pos e]
    have : setsL (x :: r) = setsL r := by simp [setsL, e]
    rw [this]
  · rw [if_neg e]
    have : setsL (x :: r) = x.dst :: setsL r := by simp [setsL, e]
    rw [this]
    unfold orS addS
    by_cases e1 : y = x.dst <;> by_cases e2 : y ∈ setsL r <;> simp [e1, e2, List.mem_cons]
theorem step_back {code : List Instr} {T E : Wd → Bool} {X S : Wd → Bool} {pre : List Nat} {x j : Nat} {y : Instr} (hy : code[j]? = some y) (hj : code.length - 1 - x = j)
    (h : pre = List.range pre.length → pre.length ≤ code.length → T = backL (code.drop (code.length - pre.length)) E ∧ ∀ y, X y = orS S (setsL (code.drop (code.length - pre.length))) y) :
    pre ++ [x] = List.range (pre ++ [x]).length → (pre ++ [x]).length ≤ code.length → backI y T = backL (code.drop (code.length - (pre ++ [x]).length)) E ∧ ∀ z, (if y.dst = [] then X z else addS X y.dst z) = orS S (setsL (code.drop (code.length - (pre ++ [x]).length))) z := by
  intro e1 e2
  rw [List.length_append, List.length_singleton] at e1 e2
  rw [List.range_succ] at e1
  obtain ⟨e3, e4⟩ := List.append_inj' e1 rfl
  have e4 : x = pre.length := by simpa using e4
  obtain ⟨h1, h2⟩ := h e3 (by omega)
  obtain ⟨hl, hg⟩ := List.getElem?_eq_some_iff.1 hy
  have ed : code.drop (code.length - (pre ++ [x]).length) = y :: code.drop (code.length - pre.length) := by
    rw [show code.length - (pre ++ [x]).length = j by rw [List.length_append, List.length_singleton]; omega, List.drop_eq_getElem_cons hl, hg, show code.length - pre.length = j + 1 by omega]
  rw [ed]
  refine ⟨by rw [h1]; rfl, fun z => ?_⟩
  rw [setsL_cons]
  split
  · exact h2 z
  · unfold addS
    rw [h2 z]
/-- what begin leaves. -/
def BegP (U : List Wd) (w : World) (base B n m : Nat) (c : Nat → Nat) (S : Nat → Wd → Bool) (vi : Nat → Value) (li : Nat → List Int) (vg : Nat → Value) (gr : Nat → List Wd) (b : Bl9) (e : Ending) (w' : World) : Prop :=
  e = .returned (.tuple #[]) ∧ ∃ g v q X, St U w' base B n (m + 1) (upd c (4 * m + 3) g) (upd (upd (upd S (4 * m + 2) (orS (S (4 * m + 2)) (usesT b.fin))) (4 * m + 3) (backL b.code (orS (S (4 * m + 2)) (usesT b.fin)))) (4 * m + 1) X) vi li (upd vg m v) (upd gr m q) ∧
    (∀ y, X y = orS (S (4 * m + 1)) (setsL b.code) y) ∧ q.Nodup ∧ (∀ x, x ∈ q ↔ backL b.code (orS (S (4 * m + 2)) (usesT b.fin)) x = true) ∧ q.length ≤ U.length ∧ Below base w w'
set_option maxRecDepth 100000 in
set_option maxHeartbeats 8000000 in
theorem begin_any {U : List Wd} (hU : UOk U) {w : World} {base B n m : Nat} {c : Nat → Nat} {S : Nat → Wd → Bool} {vi : Nat → Value} {li : Nat → List Int} {vg : Nat → Value} {gr : Nat → List Wd} (h : St U w base B n m c S vi li vg gr) (hb : base ≤ w.heap.size) (hm : m < n) (hv0 : vg m = .slice none 0 0) (hg0 : gr m = [])
    (lo hi : Nat) (cs : List Value) (b : Bl9) (hc : BlockC lo hi w cs b) (hh : hi ≤ base) (hxT : ∀ x ∈ usesT b.fin, x ∈ U) (hxI : ∀ i ∈ b.code, i.dst ∈ U ∧ ∀ x ∈ usesI i, x ∈ U) (hcl : b.code.length ≤ 1000000000000) :
    Calls Try.prog 46 #[.pointer (some ⟨B, m * 7, none⟩), .agg cs.toArray] w fun e w' => BegP U w base B n m c S vi li vg gr b e w' := by
  obtain ⟨u1, u2, cs2, rfl, hph, hco, u3, rfl, hto⟩ := hc
  obtain ⟨A1, k1, rfl⟩ := Row.form hph
  obtain ⟨A2, k2, rfl⟩ := Row.form hco
  obtain ⟨A3, k3, rfl⟩ := Row.form hto
  obtain ⟨W0, hW0⟩ : ∃ W0, (w.alloc (.cells #[.pointer (some ⟨B, m * 7, none⟩)] 136)).alloc (.cells #[str b.name, .slice A1 b.phis.length k1, .slice A2 b.code.length k2, i64 b.fin.kind, i64 b.fin.a.kind, str b.fin.a.s, i64 b.fin.a.n, .slice A3 b.fin.dest.length k3, i64 b.fin.n] 42) = W0 := ⟨_, rfl⟩
  obtain ⟨o1, o2, b0, z0⟩ := two_boxes (c1 := [.pointer (some ⟨B, m * 7, none⟩)]) (c2 := [str b.name, .slice A1 b.phis.length k1, .slice A2 b.code.length k2, i64 b.fin.kind, i64 b.fin.a.kind, str b.fin.a.s, i64 b.fin.a.n, .slice A3 b.fin.dest.length k3, i64 b.fin.n]) hW0
  have HW0 := Lib.hid hW0
  have HO1 := Lib.hid o1
  have HO2 := Lib.hid o2
  have HB0 := Lib.hid b0
  have hz0 := z0
  have HST := Lib.hid (h.below b0)
  have HXI := Lib.hid hxI
  clear hW0 b0 hph hto hxI
  refine (callsIn_wide (n := 4)).1 ?_
  obtain ⟨fI, hf6, hfc⟩ := instr_fun hco
  have HF6 := Lib.hid hf6
  have HFC := Lib.hid hfc
  clear hf6 hfc hco
  refine callsIn_of_wp_marks Try.func46 rfl trivial ?_ rfl
  simp only [Try.ntmps46, List.size_toArray, List.length_cons, List.length_nil, Nat.reduceAdd, Nat.reduceSub, Array.replicate_succ, Array.replicate_zero, List.push_toArray, List.append_toArray, List.nil_append, List.cons_append]
  refine wpIn_wide.2 ?_
  go_wp2_with fail
  rw [HW0.out]
  have m0 := o1.cell 0
  have m3 := o2.cell 3
  have m4 := o2.cell 4
  have m5 := o2.cell 5
  have m6 := o2.cell 6
  have m7 := o2.cell 7
  have m8 := o2.cell 8
  simp only [List.getElem?_cons_zero, List.getElem?_cons_succ] at m0 m3 m4 m5 m6 m7 m8
  have n4 := (HST.out.cell hm (show 4 < 7 by omega)).trans (congrArg some (show FF m c vi vg m 4 = .map (some (c (4 * m + 2))) from rfl))
  have HOK2 := Lib.hid (show OkM n m (4 * m + 2) from ⟨by omega, fun h => by omega⟩)
  have HQ1 := Lib.hid (useEnd_any hU (show SetO U W0.drew (c (4 * m + 2)) _ from (HST.out.ms.set _ HOK2.out).drew) b.fin (.slice A3 b.fin.dest.length k3) hxT)
  clear o1 o2
  go_wp2_with fail
  go_still_tail 6, (by kernel_rfl)
  change wpList _ _ _ _ _ W0.drew
  go_wp2_with fail
  refine HQ1.out.mono ?_
  rintro e w1 ⟨rfl, h1, g1⟩
  have HST1 := Lib.hid (HST.out.drew.putm HOK2.out g1 h1)
  have hs0 : w.heap.size + 1 < W0.heap.size := by omega
  have HC2 := Lib.hid (show c (4 * m + 2) < w.heap.size from (h.ms.set _ HOK2.out).lt)
  have HO11 := Lib.hid (show Mem.Own w1 w.heap.size 136 [.pointer (some ⟨B, m * 7, none⟩)] from own_kept (W := W0.drew) HO1.out g1 (by have := HC2.out; omega))
  have HO21 := Lib.hid (show Mem.Own w1 (w.heap.size + 1) 42 _ from own_kept (W := W0.drew) HO2.out g1 (by have := HC2.out; omega))
  have HB1 := Lib.hid (show Below base w w1 from (HB0.out.mono hb).grown (grown_of_drew g1) (by have := HB0.out.size; omega) (fun j hj => by cases hj; exact h.mb _ HOK2.out))
  have HSZ1 := Lib.hid (show W0.heap.size ≤ w1.heap.size from g1.size)
  clear h1 g1 m0 m3 m4 m5 m6 m7 m8 n4
  have m0 := HO11.out.cell 0
  simp only [List.getElem?_cons_zero] at m0
  have n4 := (HST1.out.cell hm (show 4 < 7 by omega)).trans (congrArg some (show FF m c vi vg m 4 = .map (some (c (4 * m + 2))) from rfl))
  have HQ2 := Lib.hid (mclone_any (show SetO U w1.drew (c (4 * m + 2)) (orS (S (4 * m + 2)) (usesT b.fin)) from by
    have := HST1.out.ms.set _ HOK2.out
    rw [upd_at] at this
    exact this.drew))
  go_wp2_with fail
  refine wp_region_noPanic ?_
  go_region_law (first | (go_simp; go_at_call 40; refine HQ2.out.mono ?_; rintro e w2 ⟨rfl, h2, b2⟩; have b2 := below_of_drew (show Below w1.heap.size w1.drew w2 from b2); have q0 := (HO11.out.below b2 (by have := HSZ1.out; omega)).cell 0; simp only [List.getElem?_cons_zero] at q0; have n5 := ((HST1.out.below b2).cell hm (show 5 < 7 by omega)).trans (congrArg some (show FF m c vi vg m 5 = .map none from by simp [FF])); have t5 := (HST1.out.below b2).out.thaw (m * 7 + 5)))
  all_goals refine NoPanic.normal ?_
  all_goals
    have HST2 := Lib.hid (St.live HST1.out hm b2 (Nat.le_refl _) (by have := HSZ1.out; omega) (show SetO U w2 w1.heap.size _ from h2))
    obtain ⟨W2, hW2⟩ : ∃ W2, w2.setCell ⟨B, m * 7 + 5, none⟩ (.map (some w1.heap.size)) = W2 := ⟨_, rfl⟩
    have gc := grown_cell w2 ⟨B, m * 7 + 5, none⟩ (.map (some w1.heap.size))
    rw [hW2] at gc
    have hBlt : B < w.heap.size := h.out.lt
    have HO12 := Lib.hid (show Mem.Own W2 w.heap.size 136 [.pointer (some ⟨B, m * 7, none⟩)] from own_kept (HO11.out.below b2 (by have := HSZ1.out; omega)) gc (by show w.heap.size ≠ B; omega))
    have HO22 := Lib.hid (show Mem.Own W2 (w.heap.size + 1) 42 _ from own_kept (HO21.out.below b2 (by have := HSZ1.out; omega)) gc (by show w.heap.size + 1 ≠ B; omega))
    have HB2 := Lib.hid (show Below base w W2 from (HB1.out.trans (b2.mono (by have := HSZ1.out; omega))).grown gc (by have := HSZ1.out; have := b2.size; omega) (fun j hj => by cases hj; exact h.ob))
    have HSZ2 := Lib.hid (show w1.heap.size < W2.heap.size from Nat.lt_of_lt_of_le h2.lt gc.size)
    have HW2 := Lib.hid hW2
    rw [hW2] at HST2
    have m2 := (HO21.out.below b2 (by have := HSZ1.out; omega)).cell 2
    simp only [List.getElem?_cons_zero, List.getElem?_cons_succ] at m2
    have hne : ¬ (w.heap.size + 1 = B) := by omega
    have hne2 : ¬ (B = w.heap.size + 1) := by omega
    clear m0 n4 hW2 gc b2 h2
    go_wp2_with fail
    refine ((callsIn_wide (n := 2)).1 (backward_in Fence.wide 2 trivial rfl A2 b.code.length k2 _)).mono ?_
    rintro e w7 ⟨rfl, rfl⟩
    go_wp2_with fail
    rw [HW2.out]
    obtain ⟨W7, hW7⟩ : ∃ W7, W2.alloc (.cells #[.slice A2 b.code.length k2] 36) = W7 := ⟨_, rfl⟩
    have HS7 := Lib.hid (show W7.heap.size = W2.heap.size + 1 by rw [← hW7]; simp)
    have HB7 := Lib.hid (show Below W2.heap.size W2 W7 by rw [← hW7]; exact (Below.refl _ _).alloc (Nat.le_refl _) _)
    have HX7 := Lib.hid (show Mem.Own W7 W2.heap.size 36 [.slice A2 b.code.length k2] by rw [← hW7]; exact Mem.Own.made W2 _ _)
    have HST7 := Lib.hid (HST2.out.below HB7.out)
    have HO7 := Lib.hid (HO12.out.below HB7.out (by have := HSZ1.out; have := HSZ2.out; omega))
    have HBW7 := Lib.hid (HB2.out.trans (HB7.out.mono (by have := HSZ1.out; have := HSZ2.out; omega)))
    rw [hW7]
    clear hW7 hne hne2 n5 t5 q0 m2
    have hsz : hi ≤ w.heap.size ∧ w.heap.size + 1 < W7.heap.size ∧ w1.heap.size + 1 < W7.heap.size := ⟨Nat.le_trans hh hb, by have := HS7.out; have := HSZ1.out; have := HSZ2.out; omega, by have := HS7.out; have := HSZ2.out; omega⟩
    have HFW := Lib.hid (show ∀ (W : World), Below hi W7 W → ∀ k x, b.code[k]? = some x → ∃ b' o, A2 = some ⟨b', o, none⟩ ∧ b' < hi ∧ (∀ j u, (fI k)[j]? = some u → W.cell? ⟨b', o + k * 6 + j, none⟩ = some u) ∧ InstrC lo hi W (fI k) x from fun W hbw k x hx => by
      have hall : Below hi w W := (HBW7.out.mono hh).trans hbw
      obtain ⟨b', o, e1, e2, e3, e4⟩ := HFC.out k x hx
      exact ⟨b', o, e1, e2, cells_later e3 hall e2, InstrC.move (Still.of_below hall) e4⟩)
    have hE2 : W2.heap.size = w2.heap.size := by rw [← HW2.out]; simp
    generalize hfr : Go.Act.mk _ _ = fr
    have hg23 : fr.eval (.tmp 23) = .func (.func 48) #[] #[.pointer (some ⟨W2.heap.size, 0, none⟩)] := by rw [← hfr, hE2]; rfl
    refine (wpIn_wide (n := 3)).1 ?_
    refine' wpIn_rangeFunc_ownH rfl (by omega) (gf := 48) (lb := #[.pointer (some ⟨W2.heap.size, 0, none⟩)]) hg23 trivial (enters_of Try.func48 (by kernel_rfl) rfl)
      (backward_stops Fence.wide 2 trivial rfl (by omega) W2.heap.size lo hi hi A2 k2 b.code fI hcl (Nat.le_refl _) W7 (by have := HS7.out; omega) (by omega) (HX7.out.cell 0) (HFW.out W7 (Below.refl _ _)))
      Kpb.trans ?hkb (Below.refl _ _) (fun _ => rfl)
      (fun pre W => ∃ T X, St U W base B n (m + 1) (upd c (4 * m + 3) w1.heap.size) (upd (upd (upd (upd S (4 * m + 2) (orS (S (4 * m + 2)) (usesT b.fin))) (4 * m + 3) (orS (S (4 * m + 2)) (usesT b.fin))) (4 * m + 3) T) (4 * m + 1) X) vi li vg gr ∧
        (pre = List.range pre.length → pre.length ≤ b.code.length → T = backL (b.code.drop (b.code.length - pre.length)) (orS (S (4 * m + 2)) (usesT b.fin)) ∧ ∀ y, X y = orS (S (4 * m + 1)) (setsL (b.code.drop (b.code.length - pre.length))) y) ∧ Mem.Own W w.heap.size 136 [.pointer (some ⟨B, m * 7, none⟩)] ∧ Below base w W ∧ Below hi W7 W)
      (fun _ _ _ => False) ?hI (fun _ _ _ _ _ h _ _ => h.elim) ?h0
      (fun x a' W => ∃ Bx, W7.heap.size ≤ Bx ∧ Mem.Own W Bx 51 (fI (b.code.length - 1 - x)) ∧ a' = { tmps := ((fr.tmps.setIfInBounds 24 (.int .i64 ((b.code.length - 1 - x : Nat) : Int))).setIfInBounds 25 (.agg (fI (b.code.length - 1 - x)).toArray)).setIfInBounds 5 (.pointer (some ⟨Bx, 0, none⟩)), defers := [] })
      ?hAx ?assign ?body ?done ?stop
    case hkb =>
      intro W l o o' hl h h1 h2
      exact ⟨belowK_b (w := W7) (by omega) W l o o' hl h h1 h2, World.putObj_heap_other (by have := HS7.out; omega)⟩
    case hI =>
      rintro s A Bw row ⟨T, X, q1, q2, q3, q4, q5⟩ hg hr
      refine ⟨T, X, q1.walk hg (fun r e => ⟨fun x hx => ?_, (hr r e).2⟩), q2, own_walk q3 hg (fun r e => (hr r e).2), q4.grown hg (Nat.le_trans hb q4.size) (fun r e => by have := (hr r e).1; omega), q5.grown hg (by have := q5.size; omega) (fun r e => by have := (hr r e).1; omega)⟩
      have h9 := (HST7.out.ms.set x hx).lt
      have := (hr r e).1
      omega
    case stop =>
      rintro D c9 pre W hD _ h
      exact h.elim
    case hAx =>
      rintro x a' s A Bw row ⟨Bx, hB, hO, e⟩ hg hr
      exact ⟨Bx, hB, own_walk hO hg (fun r e => (hr r e).2), e⟩
    case h0 =>
      refine ⟨orS (S (4 * m + 2)) (usesT b.fin), S (4 * m + 1), ?_, fun _ _ => ⟨?_, ?_⟩, HO7.out, HBW7.out, Below.refl _ _⟩
      · refine ⟨HST7.out.ob, HST7.out.out, HST7.out.ms.same (fun _ _ => rfl) fun x _ => ?_, HST7.out.mb, HST7.out.ri, HST7.out.rg⟩
        by_cases e1 : x = 4 * m + 1
        · subst e1
          rw [upd_at, upd_ne _ _ (by omega), upd_ne _ _ (by omega)]
        · rw [upd_ne _ _ e1, upd_upd]
      · simp [backL]
      · intro y; simp [setsL, orS]
    case assign =>
      rintro l pre x W K hi9 hK
      obtain ⟨a9, s9, t9, A91, A92, A93, n91, c91, n92, c92, n93, c93, e9⟩ := HF6.out (b.code.length - 1 - x)
      obtain ⟨T, X, q1, q2, q3, q4, q5⟩ := hi9
      subst hfr
      unfold bkA
      rw [e9]
      have HK9 := Lib.hid hK
      clear hK
      gi_wp2
      refine HK9.out _ _ ((KeepsOthers.alloc _ _).from _) ⟨(Below.refl hi W).alloc (by have := q5.size; omega) _, Below.heap_alloc W _ _ (by have := q5.size; have := HS7.out; omega)⟩ ⟨T, X, q1.below ((Below.refl _ _).alloc (Nat.le_refl _) _), q2, q3.alloc _, q4.alloc (Nat.le_trans hb q4.size) _, q5.alloc (by have := q5.size; omega) _⟩ ⟨W.heap.size, q5.size, ?_, ?_⟩
      · rw [e9]
        exact Mem.Own.made W _ _
      · rw [e9]
        rfl
    case body =>
      rintro l pre x a' W hl9 ⟨r9, hr9⟩ ⟨T, X, q1, q2, q3, q4, q5⟩ ⟨Bx, hBx, hOx, rfl⟩ hlt
      subst hfr
      obtain ⟨j, hj⟩ : ∃ j, b.code.length - 1 - x = j := ⟨_, rfl⟩
      have hjl : j < b.code.length := by omega
      obtain ⟨y, hy⟩ : ∃ y, b.code[j]? = some y := ⟨_, List.getElem?_eq_getElem hjl⟩
      obtain ⟨b', o', eA, hb', hcs', u1', u2', u3', hfI, i1, i2, i3⟩ := HFW.out W q5 j y hy
      have hIC : InstrC lo hi W [i64 y.op, str y.dst, str y.name, u1', u2', u3'] y := ⟨u1', u2', u3', rfl, i1, i2, i3⟩
      rw [hj] at hOx
      rw [hj]
      rw [hfI] at hOx
      rw [hfI]
      have c0 := q3.cell 0
      have x0 := hOx.cell 0
      have x1 := hOx.cell 1
      have x2 := hOx.cell 2
      have x3 := hOx.cell 3
      have x4 := hOx.cell 4
      have x5 := hOx.cell 5
      simp only [List.getElem?_cons_zero, List.getElem?_cons_succ] at c0 x0 x1 x2 x3 x4 x5
      have n5 := (q1.cell hm (show 5 < 7 by omega)).trans (congrArg some (show FF (m + 1) (upd c (4 * m + 3) w1.heap.size) vi vg m 5 = .map (some w1.heap.size) from by simp [FF, upd_at]))
      have HOKL := Lib.hid (show OkM n (m + 1) (4 * m + 3) from ⟨by omega, fun h => by omega⟩)
      have HOKS := Lib.hid (show OkM n (m + 1) (4 * m + 1) from ⟨by omega, fun h => by omega⟩)
      have hTs := q1.ms.set _ HOKL.out
      rw [upd_at, upd_ne _ _ (by omega), upd_at] at hTs
      obtain ⟨hdU, hxU⟩ := HXI.out y (List.mem_of_getElem? hy)
      have HQ := Lib.hid (goBack_any hU lo hi (show SetO U W.drew w1.heap.size T from hTs.drew) _ y (InstrC.move (Still.of_below (Below.refl hi W).drew) hIC) (by have := q5.size; show hi ≤ W.heap.size; omega) (by have := HSZ1.out; omega) hxU (hU.nm _ hdU))
      have HQ1 := Lib.hid q1
      have HQ2 := Lib.hid q2
      have HQ3 := Lib.hid q3
      have HQ4 := Lib.hid q4
      have HQ5 := Lib.hid q5
      have HOX := Lib.hid hOx
      have HY := Lib.hid hy
      have HJ := Lib.hid hj
      clear q1 q2 q3 q4 q5 hOx hy hj hIC i1 i2 i3 hcs' hfI hTs
      gi_wp2
      refine Lp11.still_round 5 (by kernel_rfl) (by kernel_rfl) rfl (fun ⟨_, _, h⟩ => h) ?_
      simp only [List.take_succ_cons, List.take_zero, List.drop_succ_cons, List.drop_zero]
      repeat still_step
      try refine wpStill_nil ?_
      change wpList _ _ _ _ _ W.drew
      go_wp2_with fail
      refine HQ.out.mono ?_
      rintro e w5 ⟨rfl, h5, g5⟩
      have hst5 := HQ1.out.drew.putm HOKL.out (by rw [upd_at]; exact g5) (by rw [upd_at]; exact h5)
      rw [upd_swap _ (show 4 * m + 1 ≠ 4 * m + 3 by omega), upd_upd] at hst5
      have HST5 := Lib.hid hst5
      have hw1 := HSZ1.out
      have HK5 := Lib.hid (show KeepsFrom W7.heap.size W w5 from ((KeepsOthers.drew W).from _).trans (KeepsFrom.of_grownBy g5 (fun j e => by cases e; omega)))
      have HP5 := Lib.hid (show Kpb hi W2.heap.size W w5 from ⟨(Below.refl hi W).drew.grown g5 (by have := HQ5.out.size; show hi ≤ W.heap.size; omega) (fun j e => by cases e; omega), (grown_of_drew g5).block _ (by have := HQ5.out.size; have := HS7.out; omega) (by have := HSZ2.out; simp; omega)⟩)
      have HO5 := Lib.hid (own_kept (W := W.drew) HQ3.out g5 (by omega))
      have HX5 := Lib.hid (own_kept (W := W.drew) HOX.out g5 (by omega))
      have HB5 := Lib.hid (show Below base w w5 from (HQ4.out.drew).grown g5 (Nat.le_trans hb HQ4.out.size) (fun j e => by cases e; omega))
      have HC5 := Lib.hid (show Below hi W7 w5 from (HQ5.out.drew).grown g5 (by have := HQ5.out.size; show hi ≤ W.heap.size; omega) (fun j e => by cases e; omega))
      have HSTEP := Lib.hid (step_back HY.out HJ.out HQ2.out)
      clear h5 g5 hst5 c0 x0 x1 x2 x3 x4 x5 n5
      have c0 := HO5.out.cell 0
      have x1 := HX5.out.cell 1
      simp only [List.getElem?_cons_zero, List.getElem?_cons_succ] at c0 x1
      by_cases hd : y.dst = []
      · have e1 : (!y.dst.isEmpty) = false := by rw [hd]; rfl
        have HD := Lib.hid hd
        clear hd
        go_wp2_with fail
        gi_wp2
        refine ⟨HK5.out, HP5.out, _, _, HST5.out, ?_, HO5.out, HB5.out, HC5.out⟩
        have h := HSTEP.out
        simp only [HD.out, if_true] at h
        exact h
      · have e1 : (!y.dst.isEmpty) = true := by cases hx2 : y.dst with
          | nil => exact absurd hx2 hd
          | cons => rfl
        have HD := Lib.hid hd
        have n3 := (HST5.out.cell hm (show 3 < 7 by omega)).trans (congrArg some (show FF (m + 1) (upd c (4 * m + 3) w1.heap.size) vi vg m 3 = .map (some (c (4 * m + 1))) from by simp [FF, upd_ne]))
        have hXs := HST5.out.ms.set _ HOKS.out
        rw [upd_at, upd_ne _ _ (by omega)] at hXs
        have HA := Lib.hid (add_any hU (show SetO U w5.drew (c (4 * m + 1)) X from hXs.drew) y.dst hdU)
        clear hd hXs
        go_wp2_with fail
        gi_wp2
        refine Lp11.still_round 6 (by kernel_rfl) (by kernel_rfl) rfl (fun ⟨_, _, h⟩ => h) ?_
        simp only [List.take_succ_cons, List.take_zero, List.drop_succ_cons, List.drop_zero]
        repeat still_step
        try refine wpStill_nil ?_
        change wpList _ _ _ _ _ w5.drew
        go_wp2_with fail
        refine HA.out.mono ?_
        rintro e w6 ⟨rfl, h6, g6⟩
        have hst6 := HST5.out.drew.putm HOKS.out (by rw [upd_ne _ _ (by omega)]; exact g6) (by rw [upd_ne _ _ (by omega)]; exact h6)
        rw [upd_upd] at hst6
        have hcs : c (4 * m + 1) < w.heap.size := (h.ms.set _ (show OkM n m (4 * m + 1) from ⟨by omega, fun h => by omega⟩)).lt
        have hcb : base ≤ c (4 * m + 1) := h.mb _ (show OkM n m (4 * m + 1) from ⟨by omega, fun h => by omega⟩)
        have HST6 := Lib.hid hst6
        have HK6 := Lib.hid (show KeepsFrom W7.heap.size W w6 from (HK5.out.trans ((KeepsOthers.drew w5).from _)).trans (KeepsFrom.of_grownBy g6 (fun j e => by cases e; omega)))
        have HP6 := Lib.hid (show Kpb hi W2.heap.size W w6 from HP5.out.trans ⟨(Below.refl hi w5).drew.grown g6 (by have := HC5.out.size; show hi ≤ w5.heap.size; omega) (fun j e => by cases e; omega), (grown_of_drew g6).block _ (by have := HC5.out.size; have := HS7.out; omega) (by have := HSZ2.out; simp; omega)⟩)
        have HO6 := Lib.hid (own_kept (W := w5.drew) HO5.out g6 (by omega))
        have HB6 := Lib.hid (show Below base w w6 from (HB5.out.drew).grown g6 (Nat.le_trans hb HB5.out.size) (fun j e => by cases e; omega))
        have HC6 := Lib.hid (show Below hi W7 w6 from (HC5.out.drew).grown g6 (by have := HC5.out.size; show hi ≤ w5.heap.size; omega) (fun j e => by cases e; omega))
        clear h6 g6 hst6
        go_wp2_with fail
        gi_wp2
        refine ⟨HK6.out, HP6.out, _, _, HST6.out, ?_, HO6.out, HB6.out, HC6.out⟩
        have h := HSTEP.out
        simp only [HD.out, if_false] at h
        exact h
    case done =>
      rintro D xs W hD rfl ⟨T, X, q1, q2, q3, q4, q5⟩ hK
      subst hfr
      have hfin := q2 (by rw [List.length_range]) (by rw [List.length_range]; exact Nat.le_refl _)
      rw [List.length_range, Nat.sub_self, List.drop_zero] at hfin
      have c0 := q3.cell 0
      simp only [List.getElem?_cons_zero] at c0
      have n5 := (q1.cell hm (show 5 < 7 by omega)).trans (congrArg some (show FF (m + 1) (upd c (4 * m + 3) w1.heap.size) vi vg m 5 = .map (some w1.heap.size) from by simp [FF, upd_at]))
      have HQ1 := Lib.hid q1
      have HQ3 := Lib.hid q3
      have HQ4 := Lib.hid q4
      have HFIN := Lib.hid hfin
      have HKD := Lib.hid hK
      clear q1 q2 q3 q4 q5 hfin hK
      have HTs := Lib.hid (show SetO U W.drew w1.heap.size T from by
        have hTs := HQ1.out.ms.set _ (show OkM n (m + 1) (4 * m + 3) from ⟨by omega, fun h => by omega⟩)
        rw [upd_at, upd_ne _ _ (by omega), upd_at] at hTs
        exact hTs.drew)
      have hwlt : w.heap.size < W.heap.size := HQ3.out.lt
      have hwne : ¬ (w.heap.size = W.heap.size) := by omega
      have HKY := Lib.hid (keys_any (some w1.heap.size) W.drew)
      have HCO := Lib.hid (collect_any hU HTs.out)
      have HF6 := Lib.hid (fun (w9 : World) (b9 : Below W.heap.size W w9) => (show w9.cell? ⟨w.heap.size, 0, none⟩ = some (.pointer (some ⟨B, m * 7, none⟩)) ∧ w9.cell? ⟨B, m * 7 + 6, none⟩ = some (.slice none 0 0) ∧ w9.frozen? ⟨B, m * 7 + 6, none⟩ = false from
        ⟨(HQ3.out.below b9 HQ3.out.lt).cell 0, ((HQ1.out.below b9).cell hm (show 6 < 7 by omega)).trans (congrArg some (show FF (m + 1) (upd c (4 * m + 3) w1.heap.size) vi vg m 6 = .slice none 0 0 from hv0)), (HQ1.out.below b9).out.thaw _⟩))
      go_wp2_with fail
      refine wp_region_noPanic ?_
      go_region_law (first
        | (go_simp; go_at_call 51; refine HKY.out.mono ?_; rintro e w8 ⟨rfl, rfl⟩; have q8 := (HF6.out (W.drew.alloc (.cells #[.map (some w1.heap.size)] 69)) (((Below.refl _ W).drew).alloc (Nat.le_refl _) _)).1)
        | (go_simp; go_at_call 76; refine HCO.out.mono ?_; rintro e w9 ⟨v9, ss9, rfl, k1', k2', k3', k4', k5'⟩; have b9 := below_of_drew (show Below W.heap.size W.drew w9 from k5'); obtain ⟨A9, c9, rfl⟩ := row_form k4'; obtain ⟨q9, r9, s9⟩ := HF6.out w9 b9))
      all_goals refine NoPanic.normal ?_
      all_goals
        have hDl : D < W.heap.size := by
          by_cases hh9 : D < W.heap.size
          · exact hh9
          · have h9 := HKD.out
            rw [Array.getElem?_eq_none (by omega)] at h9
            cases h9
        have hBlt2 : B < w.heap.size := h.out.lt
        obtain ⟨Wz, hWz⟩ : ∃ Wz, w9.setCell ⟨B, m * 7 + 6, none⟩ (.slice A9 ss9.length c9) = Wz := ⟨_, rfl⟩
        have gz := grown_cell w9 ⟨B, m * 7 + 6, none⟩ (.slice A9 ss9.length c9)
        have hp := HQ1.out.push (w' := w9) hm (by rw [hv0]; exact ⟨b9.os, b9.tape, b9.output, b9.size, fun k hk _ => b9.block k hk⟩) (v' := .slice A9 ss9.length c9) (l' := ss9) (ownsRow_base_a k4' (by show base ≤ W.heap.size; have := HQ4.out.size; omega)) (.inr fun k hk => (k4'.lt k hk).1)
        rw [hWz] at gz hp
        have hK' : Wz.heap[D]? = some (.deferred (some [])) := (gz.block D (by have := b9.size; omega) (by show some D ≠ some B; simp; omega)).trans ((b9.block D hDl).trans HKD.out)
        have hwz : base ≤ Wz.heap.size := by have := HQ4.out.size; have := b9.size; have := gz.size; omega
        have gd := grownBy_putObj' Wz D (.deferred none)
        have hp2 := hp.walk gd (fun r e => by
          cases e
          refine ⟨fun x hx e2 => ?_, ⟨_, hK', rfl⟩⟩
          have := (HST7.out.ms.set x hx).lt
          omega)
        have hbz : Below base w (Wz.putObj D (.deferred none)) := ((((HQ4.out.trans (b9.mono (by have := HQ4.out.size; omega))).grown gz (by have := HQ4.out.size; have := b9.size; omega) (fun j e => by cases e; exact h.ob))).grown gd hwz (fun j e => by cases e; omega))
        rw [hWz]
        refine ⟨by simp, .inl ⟨_, _, rfl, run_takeDeferred hK', ?_⟩⟩
        refine ⟨.tuple #[], ?_, rfl, w1.heap.size, .slice A9 ss9.length c9, ss9, X, ?_, HFIN.out.2, k1', ?_, k3', hbz⟩
        · simp [results, Try.f46, go_sem]
        · rw [upd_upd, HFIN.out.1] at hp2
          exact hp2
        · rw [← HFIN.out.1]
          exact k2'
end Go.Proofs.Ytaeklfljibjpiaa.Lv12
