/-
  Layer 12: what is live at a place of a function.
-/
import Derived.Test.YtaeklfljibjpiaaLvLast
import Derived.Test.YtaeklfljibjpiaaLvAt
namespace Go.Proofs.Ytaeklfljibjpiaa.Lv12
open Go.RowKit Go.Shelf Api Mem Sh8 Go.Maps
attribute [local go_sem] Oper.semAt_some
/-- what is live at the last place of block i. -/
def LastP (bl : List Api.Block) (i : Nat) (y : Wd) : Prop := SF bl bl.length (4 * i + 2) y = true ∨ ∃ t, t ∈ dsts (EG bl) i ∧ LvB bl t y ∧ SF bl bl.length (4 * t) y = false
/-- what is live ahead of instructions. -/
def BackP : List Instr → (Wd → Prop) → Wd → Prop
  | [], S, y => S y
  | x :: r, S, y => y ∈ usesI x ∨ (¬ (x.dst ≠ [] ∧ y = x.dst) ∧ BackP r S y)
/-- what is live at place k of block i, which is b. -/
def AtL (bl : List Api.Block) (i : Nat) (b : Api.Block) (k : Nat) (y : Wd) : Prop := BackP (b.code.drop k) (LastP bl i) y
theorem backL_iff {S : Wd → Bool} {Q : Wd → Prop} (h : ∀ y, S y = true ↔ Q y) : ∀ {l : List Instr} (y : Wd), backL l S y = true ↔ BackP l Q y
  | [], y => h y
  | x :: r, y => by
    have ih := backL_iff h (l := r) y
    show backI x (backL r S) y = true ↔ y ∈ usesI x ∨ (¬ (x.dst ≠ [] ∧ y = x.dst) ∧ BackP r Q y)
    rw [← ih]
    unfold backI orS delS
    by_cases e : x.dst = []
    · simp [e, or_comm]
    · by_cases e2 : y = x.dst
      · simp [e, e2]
      · simp [e, e2, or_comm]
theorem last_iff {bl : List Api.Block} {i : Nat} {L0 : Nat → Wd → Bool} (h0 : 0 < bl.length) (hi : i < bl.length) (hL : ∀ i x, i < bl.length → (L0 i x = true ↔ LvB bl i x)) (y : Wd) : lastS (EG bl) (mix (SF bl bl.length) L0) i y = true ↔ LastP bl i y := by
  unfold lastS LastP
  rw [Bool.or_eq_true, List.any_eq_true, mix_ne _ _ (by omega)]
  refine or_congr Iff.rfl ⟨fun ⟨t, ht, h⟩ => ⟨t, ht, ?_⟩, fun ⟨t, ht, h1, h2⟩ => ⟨t, ht, ?_⟩⟩
  · have htn := (edges_lt h0 _ (mem_dsts.1 ht)).2
    rw [mix_at, mix_ne _ _ (by omega), Bool.and_eq_true] at h
    exact ⟨(hL t y htn).1 h.1, by simpa using h.2⟩
  · have htn := (edges_lt h0 _ (mem_dsts.1 ht)).2
    rw [mix_at, mix_ne _ _ (by omega), Bool.and_eq_true]
    exact ⟨(hL t y htn).2 h1, by simpa using h2⟩
/-- these names, rising, in new memory. -/
def RiseQ (Q : Wd → Prop) (w : World) (e : Ending) (w' : World) : Prop :=
  ∃ v r, e = .returned v ∧ Rise r ∧ (∀ x, x ∈ r ↔ Q x) ∧ w'.ownsRow w.heap.size 9 1 v r.length (r.map str) ∧ (v = .slice none 0 0 ↔ r = []) ∧ Below w.heap.size w w'
set_option maxRecDepth 100000 in
set_option maxHeartbeats 8000000 in
theorem at_any {U : List Wd} (hU : UOk U) (lo hi : Nat) (w : World) (cs : List Value) (f : Api.Func) (hf : FuncC lo hi w cs f) (hh : hi ≤ w.heap.size) (ho : FOk U f.blocks) (i : Nat) (b : Api.Block) (hib : f.blocks[i]? = some b) (k : Nat) (hk : k ≤ b.code.length) :
    Calls Try.prog 13 #[.agg cs.toArray, .int .i64 (i : Int), .int .i64 (k : Int)] w (RiseQ (AtL f.blocks i b k) w) := by
  have hf0 := hf
  obtain ⟨u1, u2, u3, rfl, kp, kv, kb⟩ := hf
  obtain ⟨nm, rs, ps, vs, bl⟩ := f
  simp only at kp kv kb hib ho ⊢
  have hil : i < bl.length := (List.getElem?_eq_some_iff.1 hib).1
  have hbm : b ∈ bl := List.mem_of_getElem? hib
  have HOK := Lib.hid ho
  have HUI := Lib.hid (ho.uI b hbm)
  have a1 : ¬ ((i : Int) < 0) := by omega
  have a2 : decide ((i : Int) < 0) = false := decide_eq_false a1
  have a3 : ¬ ((bl.length : Int) ≤ (i : Int)) := by omega
  have a4 : decide ((bl.length : Int) ≤ (i : Int)) = false := decide_eq_false a3
  have a5 : decide (bl.length ≤ i) = false := decide_eq_false (by omega)
  obtain ⟨A1, k1, rfl⟩ := kp.form
  obtain ⟨A2, k2, rfl⟩ := kv.form
  obtain ⟨A3, k3, rfl⟩ := kb.form
  obtain ⟨b3, o3, rfl, hb3, cs3, hcl3, hcs3, hbc⟩ := row_at kb hib
  have hbx : Below w.heap.size w (w.alloc (.cells #[str nm, str rs, .slice A1 ps.length k1, .slice A2 vs.length k2, .slice (some ⟨b3, o3, none⟩) bl.length k3] 25)) := (Below.refl _ _).alloc (Nat.le_refl _) _
  obtain ⟨W0, hW0⟩ : ∃ W0, w.alloc (.cells #[str nm, str rs, .slice A1 ps.length k1, .slice A2 vs.length k2, .slice (some ⟨b3, o3, none⟩) bl.length k3] 25) = W0 := ⟨_, rfl⟩
  rw [hW0] at hbx
  have hO0 : Mem.Own W0 w.heap.size 25 [str nm, str rs, .slice A1 ps.length k1, .slice A2 vs.length k2, .slice (some ⟨b3, o3, none⟩) bl.length k3] := by rw [← hW0]; exact Mem.Own.made w _ _
  have HO0 := Lib.hid hO0
  have HBX := Lib.hid hbx
  have HW0 := Lib.hid hW0
  have HF := Lib.hid hf0
  have HCL := Lib.hid hcs3
  obtain ⟨x1, x2, cs4, rfl, kph, kco, x4, rfl, kto⟩ := hbc
  obtain ⟨A5, k5, rfl⟩ := Row.form kco
  have hcap := Row.cap kco
  have hlt0 := hO0.lt
  have HKO := Lib.hid kco
  have hk9 := ho.cl b hbm
  have m0 := (at9 (cells_later hcs3 (hbx.mono hh) hb3)).2.2.1
  have e1 : ¬ ((k : Int) < 0) := by omega
  have e2 : decide ((k : Int) < 0) = false := decide_eq_false e1
  have e3 : ¬ ((b.code.length : Int) < (k : Int)) := by omega
  have e4 : decide ((b.code.length : Int) < (k : Int)) = false := decide_eq_false e3
  have HQ1 := Lib.hid (follow_any hU lo hi W0 _ _ (FuncC.move (Still.of_below (hbx.mono hh)) hf0) (Nat.le_trans hh hbx.size) ho)
  have f4 := hO0.cell 4
  have f0 := hO0.cell 0
  have f1 := hO0.cell 1
  have f2 := hO0.cell 2
  have f3 := hO0.cell 3
  simp only [List.getElem?_cons_zero, List.getElem?_cons_succ] at f0 f1 f2 f3 f4
  clear hf0 kp kv kb kph kco kto hbx hO0 hcs3
  refine (callsIn_wide (n := 4)).1 ?_
  refine callsIn_of_wp_marks Try.func13 rfl trivial ?_ rfl
  simp only [Try.ntmps13, List.size_toArray, List.length_cons, List.length_nil, Nat.reduceAdd, Nat.reduceSub, Array.replicate_succ, Array.replicate_zero, List.push_toArray, List.append_toArray, List.nil_append, List.cons_append]
  refine wpIn_wide.2 ?_
  go_wp2_with fail
  refine HQ1.out.mono ?_
  rintro e w1 ⟨B, c, vi, vg, gr, L0, rfl, hst1, hL0, hb1⟩
  have hbs : W0.heap.size ≤ w1.heap.size := hb1.size
  have HQ2 := Lib.hid (last_any hU hst1 hbs hil (edges_lt HOK.out.pos) HOK.out.el HOK.out.few)
  have HB1 := Lib.hid (HBX.out.trans (hb1.mono HBX.out.size))
  have HO1 := Lib.hid (HO0.out.below hb1 hlt0)
  obtain ⟨E0, hE0⟩ : ∃ E0, lastS (EG bl) (mix (SF bl bl.length) L0) i = E0 := ⟨_, rfl⟩
  have HCONV := Lib.hid (fun x => backL_iff (l := b.code.drop k) (fun y => show E0 y = true ↔ LastP bl i y from by rw [← hE0]; exact last_iff HOK.out.pos hil hL0 y) x)
  rw [hE0] at HQ2
  clear hst1 hb1 f0 f1 f2 f3 f4 m0 hL0 hE0
  go_wp2_with fail
  refine HQ2.out.mono ?_
  rintro e w2 ⟨g, rfl, hg, hs2, hb2⟩
  have hb12 : w1.heap.size ≤ w2.heap.size := hb2.size
  have HG2 := Lib.hid hs2
  have HB2 := Lib.hid (HB1.out.trans (hb2.mono HB1.out.size))
  have HO2 := Lib.hid (HO1.out.below hb2 HO1.out.lt)
  have hgl : g < w2.heap.size := hs2.lt
  have f4 := HO2.out.cell 4
  have m0 := (at9 (cells_later HCL.out (HB2.out.mono hh) hb3)).2.2.1
  simp only [List.getElem?_cons_zero, List.getElem?_cons_succ] at f4
  have hwlt : w.heap.size < w2.heap.size := HO2.out.lt
  have hb3lt : b3 < w2.heap.size := by omega
  have hne1 : ¬ (w.heap.size = w2.heap.size) := by omega
  have hne2 : ¬ (b3 = w2.heap.size) := by omega
  clear hs2 hb2
  have hkl : (k : Int) ≤ (b.code.length : Int) := by omega
  have hkc : (b.code.length : Int) ≤ (k5 : Int) := by omega
  obtain ⟨L, hL⟩ : ∃ L, b.code.drop k = L := ⟨_, rfl⟩
  have HLL := Lib.hid hL
  clear hL
  by_cases hc : k < k5
  · have hc2 : (k : Int) < (k5 : Int) := by omega
    have HRW := Lib.hid (show Instrs lo hi w (.slice (A5.map fun x => x.add (k * 6)) (b.code.length - k) (k5 - k)) L from by rw [← HLL.out]; exact sub_row HKO.out hk hc)
    go_wp2_with fail
    generalize (Option.map (fun x => Addr.add x (k * 6)) A5) = A9 at HRW ⊢
    have hrow : Instrs lo hi w (.slice A9 (b.code.length - k) (k5 - k)) L := HRW.out
    have HNL := Lib.hid (show (b.code.length - k) = L.length by obtain ⟨_, _, h, _⟩ := Row.get hrow; exact h)
    have hLx : ∀ i ∈ L, i ∈ b.code := fun i hi => by rw [← HLL.out] at hi; exact List.mem_of_mem_drop hi
    have hLl : L.length ≤ 1000000000000 := by rw [← HLL.out, List.length_drop]; omega
    obtain ⟨fI, hf6, hfc⟩ := instr_fun hrow
    have HF6 := Lib.hid hf6
    have HFC := Lib.hid hfc
    have HLX := Lib.hid hLx
    obtain ⟨W3, hW3⟩ : ∃ W3, w2.alloc (.cells #[.map (some g)] 69) = W3 := ⟨_, rfl⟩
    have HS3 := Lib.hid (show W3.heap.size = w2.heap.size + 1 by rw [← hW3]; simp)
    have HB3 := Lib.hid (show Below w2.heap.size w2 W3 by rw [← hW3]; exact (Below.refl _ _).alloc (Nat.le_refl _) _)
    have HX3 := Lib.hid (show Mem.Own W3 w2.heap.size 69 [.map (some g)] by rw [← hW3]; exact Mem.Own.made w2 _ _)
    have HG3 := Lib.hid (HG2.out.below HB3.out hgl)
    rw [hW3]
    clear hW3 hrow hf6 hfc hLx f4 m0
    refine ((callsIn_wide (n := 2)).1 (backward_in Fence.wide 2 trivial rfl A9 (b.code.length - k) (k5 - k) W3)).mono ?_
    rintro e w7 ⟨rfl, rfl⟩
    obtain ⟨W7, hW7⟩ : ∃ W7, W3.alloc (.cells #[.slice A9 (b.code.length - k) (k5 - k)] 36) = W7 := ⟨_, rfl⟩
    have HS7 := Lib.hid (show W7.heap.size = W3.heap.size + 1 by rw [← hW7]; simp)
    have HB7 := Lib.hid (show Below W3.heap.size W3 W7 by rw [← hW7]; exact (Below.refl _ _).alloc (Nat.le_refl _) _)
    have HX7 := Lib.hid (show Mem.Own W7 W3.heap.size 36 [.slice A9 (b.code.length - k) (k5 - k)] by rw [← hW7]; exact Mem.Own.made W3 _ _)
    have HXS := Lib.hid (HX3.out.below HB7.out (by have := HS3.out; omega))
    have HG7 := Lib.hid (HG3.out.below HB7.out (by have := HS3.out; omega))
    have HBW7 := Lib.hid (HB2.out.trans (((HB3.out.mono (by omega)).trans (HB7.out.mono (by have := HS3.out; omega)))))
    rw [hW7]
    clear hW7
    go_wp2_with fail
    have hsz : hi ≤ w.heap.size ∧ w.heap.size ≤ W7.heap.size ∧ g < W7.heap.size ∧ hi ≤ g := ⟨hh, by have := HS7.out; have := HS3.out; omega, by have := HS7.out; have := HS3.out; omega, by omega⟩
    have HFW := Lib.hid (show ∀ (W : World), Below hi W7 W → ∀ k x, L[k]? = some x → ∃ b' o, A9 = some ⟨b', o, none⟩ ∧ b' < hi ∧ (∀ j u, (fI k)[j]? = some u → W.cell? ⟨b', o + k * 6 + j, none⟩ = some u) ∧ InstrC lo hi W (fI k) x from fun W hbw k x hx => by
      have hall : Below hi w W := (HBW7.out.mono hh).trans hbw
      obtain ⟨b', o, e1, e2, e3, e4⟩ := HFC.out k x hx
      exact ⟨b', o, e1, e2, cells_later e3 hall e2, InstrC.move (Still.of_below hall) e4⟩)
    generalize hfr : Go.Act.mk _ _ = fr
    have hg23 : fr.eval (.tmp 46) = .func (.func 48) #[] #[.pointer (some ⟨W3.heap.size, 0, none⟩)] := by rw [← hfr, show W3.heap.size = w2.heap.size + 1 from HS3.out]; rfl
    refine (wpIn_wide (n := 3)).1 ?_
    refine' wpIn_rangeFunc_ownH rfl (by omega) (gf := 48) (lb := #[.pointer (some ⟨W3.heap.size, 0, none⟩)]) hg23 trivial (enters_of Try.func48 (by kernel_rfl) rfl)
      (backward_stops Fence.wide 2 trivial rfl (by omega) W3.heap.size lo hi hi A9 (k5 - k) L fI hLl (Nat.le_refl _) W7 (by have := HS7.out; omega) (by omega) (by rw [← HNL.out]; exact HX7.out.cell 0) (HFW.out W7 (Below.refl _ _)))
      Kpb.trans ?hkb (Below.refl _ _) (fun _ => rfl)
      (fun pre W => ∃ T, SetO U W g T ∧ (pre = List.range pre.length → pre.length ≤ L.length → T = backL (L.drop (L.length - pre.length)) E0) ∧ Mem.Own W w2.heap.size 69 [.map (some g)] ∧ Below w.heap.size w W ∧ Below hi W7 W)
      (fun _ _ _ => False) ?hI (fun _ _ _ _ _ h _ _ => h.elim) ?h0
      (fun x a' W => ∃ Bx, W7.heap.size ≤ Bx ∧ Mem.Own W Bx 51 (fI (L.length - 1 - x)) ∧ a' = { tmps := ((fr.tmps.setIfInBounds 47 (.int .i64 ((L.length - 1 - x : Nat) : Int))).setIfInBounds 48 (.agg (fI (L.length - 1 - x)).toArray)).setIfInBounds 9 (.pointer (some ⟨Bx, 0, none⟩)), defers := [] })
      ?hAx ?assign ?body ?done ?stop
    case hkb =>
      intro W l o o' hl h h1 h2
      exact ⟨belowK_b (w := W7) (by omega) W l o o' hl h h1 h2, World.putObj_heap_other (by have := HS7.out; omega)⟩
    case hI =>
      rintro s A' Bw row ⟨T, q1, q2, q3, q4, q5⟩ hg9 hr
      refine ⟨T, q1.grown hg9 (fun e => ?_), q2, own_walk q3 hg9 (fun r e => (hr r e).2), q4.grown hg9 q4.size (fun r e => by have := (hr r e).1; omega), q5.grown hg9 (by have := q5.size; omega) (fun r e => by have := (hr r e).1; omega)⟩
      have := (hr g e.symm).1
      omega
    case stop =>
      rintro D c9 pre W hD _ h
      exact h.elim
    case hAx =>
      rintro x a' s A' Bw row ⟨Bx, hB, hO, e⟩ hg9 hr
      exact ⟨Bx, hB, own_walk hO hg9 (fun r e => (hr r e).2), e⟩
    case h0 =>
      refine ⟨E0, HG7.out, fun _ _ => ?_, HXS.out, HBW7.out, Below.refl _ _⟩
      rw [List.length_nil, Nat.sub_zero, List.drop_length]
      rfl
    case assign =>
      rintro l pre x W K hi9 hK
      obtain ⟨a9, s9, t9, A91, A92, A93, n91, c91, n92, c92, n93, c93, e9⟩ := HF6.out (L.length - 1 - x)
      obtain ⟨T, q1, q2, q3, q4, q5⟩ := hi9
      subst hfr
      unfold bkA
      rw [e9]
      have HK9 := Lib.hid hK
      clear hK
      gi_wp2
      refine HK9.out _ _ ((KeepsOthers.alloc _ _).from _) ⟨(Below.refl hi W).alloc (by have := q5.size; omega) _, Below.heap_alloc W _ _ (by have := q5.size; have := HS7.out; omega)⟩ ⟨T, q1.alloc _, q2, q3.alloc _, q4.alloc q4.size _, q5.alloc (by have := q5.size; omega) _⟩ ⟨W.heap.size, q5.size, ?_, ?_⟩
      · rw [e9]
        exact Mem.Own.made W _ _
      · rw [e9]
        rfl
    case body =>
      rintro l pre x a' W hl9 ⟨r9, hr9⟩ ⟨T, q1, q2, q3, q4, q5⟩ ⟨Bx, hBx, hOx, rfl⟩ hlt
      subst hfr
      obtain ⟨j, hj⟩ : ∃ j, L.length - 1 - x = j := ⟨_, rfl⟩
      have hjl : j < L.length := by omega
      obtain ⟨y, hy⟩ : ∃ y, L[j]? = some y := ⟨_, List.getElem?_eq_getElem hjl⟩
      obtain ⟨b', o', eA, hb', hcs', u1', u2', u3', hfI, i1, i2, i3⟩ := HFW.out W q5 j y hy
      have hIC : InstrC lo hi W [i64 y.op, str y.dst, str y.name, u1', u2', u3'] y := ⟨u1', u2', u3', rfl, i1, i2, i3⟩
      rw [hj] at hOx
      rw [hj]
      rw [hfI] at hOx
      rw [hfI]
      have c0 := q3.cell 0
      have x0 := hOx.cell 0
      have x1 := hOx.cell 1
      have x2 := hOx.cell 2
      have x3 := hOx.cell 3
      have x4 := hOx.cell 4
      have x5 := hOx.cell 5
      simp only [List.getElem?_cons_zero, List.getElem?_cons_succ] at c0 x0 x1 x2 x3 x4 x5
      obtain ⟨hdU, hxU⟩ := HUI.out y (HLX.out y (List.mem_of_getElem? hy))
      have HQ := Lib.hid (goBack_any hU lo hi q1 _ y hIC (by have := q5.size; omega) (by omega) hxU (hU.nm _ hdU))
      have HQ2' := Lib.hid q2
      have HQ3 := Lib.hid q3
      have HQ4 := Lib.hid q4
      have HQ5 := Lib.hid q5
      have HY := Lib.hid hy
      have HJ := Lib.hid hj
      clear q1 q2 q3 q4 q5 hy hj hIC i1 i2 i3 hcs' hfI hOx
      gi_wp2
      refine ⟨trivial, ((CallsIn.inRound l (callsIn_wide.2 HQ.out)).mono ?_)⟩
      rintro e w5 ⟨rfl, h5, g5⟩
      have HK5 := Lib.hid (show KeepsFrom W7.heap.size W w5 from KeepsFrom.of_grownBy g5 (fun j e => by cases e; omega))
      have HP5 := Lib.hid (show Kpb hi W3.heap.size W w5 from ⟨(Below.refl hi W).grown g5 (by have := HQ5.out.size; omega) (fun j e => by cases e; omega), g5.block _ (by have := HQ5.out.size; have := HS7.out; omega) (by have := HS3.out; simp; omega)⟩)
      have HO5 := Lib.hid (own_kept HQ3.out g5 (by omega))
      have HB5 := Lib.hid (show Below w.heap.size w w5 from HQ4.out.grown g5 HQ4.out.size (fun j e => by cases e; omega))
      have HC5 := Lib.hid (show Below hi W7 w5 from HQ5.out.grown g5 (by have := HQ5.out.size; omega) (fun j e => by cases e; omega))
      have HST5 := Lib.hid h5
      have HSTEP := Lib.hid (step_backT HY.out HJ.out HQ2'.out)
      clear h5 g5
      gi_wp2
      exact ⟨HK5.out, HP5.out, _, HST5.out, HSTEP.out, HO5.out, HB5.out, HC5.out⟩
    case done =>
      rintro D xs W hD rfl ⟨T, q1, q2, q3, q4, q5⟩ hK
      subst hfr
      have hfin := q2 (by rw [List.length_range]) (by rw [List.length_range]; exact Nat.le_refl _)
      rw [List.length_range, Nat.sub_self, List.drop_zero] at hfin
      have c0 := q3.cell 0
      simp only [List.getElem?_cons_zero] at c0
      have HR := Lib.hid (rising_any hU q1)
      have HQ4 := Lib.hid q4
      have HFIN := Lib.hid hfin
      have HKD := Lib.hid hK
      have hDl : D < W.heap.size := by
        by_cases hh9 : D < W.heap.size
        · exact hh9
        · rw [Array.getElem?_eq_none (by omega)] at hK
          cases hK
      clear q1 q2 q3 q4 q5 hfin hK
      go_wp2_with fail
      refine HR.out.mono ?_
      rintro e w9 ⟨v9, r9, rfl, h1, h2, h3, h4, h5⟩
      obtain ⟨A9', c9', rfl⟩ := row_form h3
      have hK' : w9.heap[D]? = some (.deferred (some [])) := (h5.block D hDl).trans HKD.out
      have gd := grownBy_putObj' w9 D (.deferred none)
      have H1 := Lib.hid h1
      have H2 := Lib.hid h2
      have H3 := Lib.hid (row_other h3 gd (notT_walk ⟨_, hK', rfl⟩ _))
      have H4 := Lib.hid h4
      have H5 := Lib.hid (show Below w.heap.size w (w9.putObj D (.deferred none)) from (HQ4.out.trans (h5.mono HQ4.out.size)).grown gd (Nat.le_trans HQ4.out.size h5.size) (fun j e => by cases e; omega))
      have HKK := Lib.hid hK'
      clear h1 h2 h3 h4 h5 hK' gd
      go_wp2_with fail
      refine ⟨by simp, .inl ⟨_, _, rfl, run_takeDeferred HKK.out, ?_⟩⟩
      refine ⟨.slice A9' r9.length c9', ?_, _, r9, rfl, H1.out, ?_, ownsRow_base_a H3.out HQ4.out.size, H4.out, H5.out⟩
      · simp [results, Try.f13, go_sem]
      · exact fun x => (H2.out x).trans (by rw [HFIN.out, ← HLL.out]; exact HCONV.out x)
  · have hk5 : k5 = k := by omega
    have hbk : b.code.length = k := by omega
    have HRW := Lib.hid (show Instrs lo hi w (.slice A5 0 0) L from nil_row A5 L (by rw [← HLL.out]; exact List.drop_of_length_le (by omega)))
    subst hk5
    rw [hbk] at *
    go_wp2_with fail
    have hrow : Instrs lo hi w (.slice A5 0 0) L := HRW.out
    have HNL := Lib.hid (show 0 = L.length by obtain ⟨_, _, h, _⟩ := Row.get hrow; exact h)
    have hLx : ∀ i ∈ L, i ∈ b.code := fun i hi => by rw [← HLL.out] at hi; exact List.mem_of_mem_drop hi
    have hLl : L.length ≤ 1000000000000 := by rw [← HLL.out, List.length_drop]; omega
    obtain ⟨fI, hf6, hfc⟩ := instr_fun hrow
    have HF6 := Lib.hid hf6
    have HFC := Lib.hid hfc
    have HLX := Lib.hid hLx
    obtain ⟨W3, hW3⟩ : ∃ W3, w2.alloc (.cells #[.map (some g)] 69) = W3 := ⟨_, rfl⟩
    have HS3 := Lib.hid (show W3.heap.size = w2.heap.size + 1 by rw [← hW3]; simp)
    have HB3 := Lib.hid (show Below w2.heap.size w2 W3 by rw [← hW3]; exact (Below.refl _ _).alloc (Nat.le_refl _) _)
    have HX3 := Lib.hid (show Mem.Own W3 w2.heap.size 69 [.map (some g)] by rw [← hW3]; exact Mem.Own.made w2 _ _)
    have HG3 := Lib.hid (HG2.out.below HB3.out hgl)
    rw [hW3]
    clear hW3 hrow hf6 hfc hLx f4 m0
    refine ((callsIn_wide (n := 2)).1 (backward_in Fence.wide 2 trivial rfl A5 0 0 W3)).mono ?_
    rintro e w7 ⟨rfl, rfl⟩
    obtain ⟨W7, hW7⟩ : ∃ W7, W3.alloc (.cells #[.slice A5 0 0] 36) = W7 := ⟨_, rfl⟩
    have HS7 := Lib.hid (show W7.heap.size = W3.heap.size + 1 by rw [← hW7]; simp)
    have HB7 := Lib.hid (show Below W3.heap.size W3 W7 by rw [← hW7]; exact (Below.refl _ _).alloc (Nat.le_refl _) _)
    have HX7 := Lib.hid (show Mem.Own W7 W3.heap.size 36 [.slice A5 0 0] by rw [← hW7]; exact Mem.Own.made W3 _ _)
    have HXS := Lib.hid (HX3.out.below HB7.out (by have := HS3.out; omega))
    have HG7 := Lib.hid (HG3.out.below HB7.out (by have := HS3.out; omega))
    have HBW7 := Lib.hid (HB2.out.trans (((HB3.out.mono (by omega)).trans (HB7.out.mono (by have := HS3.out; omega)))))
    rw [hW7]
    clear hW7
    go_wp2_with fail
    have hsz : hi ≤ w.heap.size ∧ w.heap.size ≤ W7.heap.size ∧ g < W7.heap.size ∧ hi ≤ g := ⟨hh, by have := HS7.out; have := HS3.out; omega, by have := HS7.out; have := HS3.out; omega, by omega⟩
    have HFW := Lib.hid (show ∀ (W : World), Below hi W7 W → ∀ k x, L[k]? = some x → ∃ b' o, A5 = some ⟨b', o, none⟩ ∧ b' < hi ∧ (∀ j u, (fI k)[j]? = some u → W.cell? ⟨b', o + k * 6 + j, none⟩ = some u) ∧ InstrC lo hi W (fI k) x from fun W hbw k x hx => by
      have hall : Below hi w W := (HBW7.out.mono hh).trans hbw
      obtain ⟨b', o, e1, e2, e3, e4⟩ := HFC.out k x hx
      exact ⟨b', o, e1, e2, cells_later e3 hall e2, InstrC.move (Still.of_below hall) e4⟩)
    generalize hfr : Go.Act.mk _ _ = fr
    have hg23 : fr.eval (.tmp 46) = .func (.func 48) #[] #[.pointer (some ⟨W3.heap.size, 0, none⟩)] := by rw [← hfr, show W3.heap.size = w2.heap.size + 1 from HS3.out]; rfl
    refine (wpIn_wide (n := 3)).1 ?_
    refine' wpIn_rangeFunc_ownH rfl (by omega) (gf := 48) (lb := #[.pointer (some ⟨W3.heap.size, 0, none⟩)]) hg23 trivial (enters_of Try.func48 (by kernel_rfl) rfl)
      (backward_stops Fence.wide 2 trivial rfl (by omega) W3.heap.size lo hi hi A5 0 L fI hLl (Nat.le_refl _) W7 (by have := HS7.out; omega) (by omega) (by rw [← HNL.out]; exact HX7.out.cell 0) (HFW.out W7 (Below.refl _ _)))
      Kpb.trans ?hkb (Below.refl _ _) (fun _ => rfl)
      (fun pre W => ∃ T, SetO U W g T ∧ (pre = List.range pre.length → pre.length ≤ L.length → T = backL (L.drop (L.length - pre.length)) E0) ∧ Mem.Own W w2.heap.size 69 [.map (some g)] ∧ Below w.heap.size w W ∧ Below hi W7 W)
      (fun _ _ _ => False) ?hI (fun _ _ _ _ _ h _ _ => h.elim) ?h0
      (fun x a' W => ∃ Bx, W7.heap.size ≤ Bx ∧ Mem.Own W Bx 51 (fI (L.length - 1 - x)) ∧ a' = { tmps := ((fr.tmps.setIfInBounds 47 (.int .i64 ((L.length - 1 - x : Nat) : Int))).setIfInBounds 48 (.agg (fI (L.length - 1 - x)).toArray)).setIfInBounds 9 (.pointer (some ⟨Bx, 0, none⟩)), defers := [] })
      ?hAx ?assign ?body ?done ?stop
    case hkb =>
      intro W l o o' hl h h1 h2
      exact ⟨belowK_b (w := W7) (by omega) W l o o' hl h h1 h2, World.putObj_heap_other (by have := HS7.out; omega)⟩
    case hI =>
      rintro s A' Bw row ⟨T, q1, q2, q3, q4, q5⟩ hg9 hr
      refine ⟨T, q1.grown hg9 (fun e => ?_), q2, own_walk q3 hg9 (fun r e => (hr r e).2), q4.grown hg9 q4.size (fun r e => by have := (hr r e).1; omega), q5.grown hg9 (by have := q5.size; omega) (fun r e => by have := (hr r e).1; omega)⟩
      have := (hr g e.symm).1
      omega
    case stop =>
      rintro D c9 pre W hD _ h
      exact h.elim
    case hAx =>
      rintro x a' s A' Bw row ⟨Bx, hB, hO, e⟩ hg9 hr
      exact ⟨Bx, hB, own_walk hO hg9 (fun r e => (hr r e).2), e⟩
    case h0 =>
      refine ⟨E0, HG7.out, fun _ _ => ?_, HXS.out, HBW7.out, Below.refl _ _⟩
      rw [List.length_nil, Nat.sub_zero, List.drop_length]
      rfl
    case assign =>
      rintro l pre x W K hi9 hK
      obtain ⟨a9, s9, t9, A91, A92, A93, n91, c91, n92, c92, n93, c93, e9⟩ := HF6.out (L.length - 1 - x)
      obtain ⟨T, q1, q2, q3, q4, q5⟩ := hi9
      subst hfr
      unfold bkA
      rw [e9]
      have HK9 := Lib.hid hK
      clear hK
      gi_wp2
      refine HK9.out _ _ ((KeepsOthers.alloc _ _).from _) ⟨(Below.refl hi W).alloc (by have := q5.size; omega) _, Below.heap_alloc W _ _ (by have := q5.size; have := HS7.out; omega)⟩ ⟨T, q1.alloc _, q2, q3.alloc _, q4.alloc q4.size _, q5.alloc (by have := q5.size; omega) _⟩ ⟨W.heap.size, q5.size, ?_, ?_⟩
      · rw [e9]
        exact Mem.Own.made W _ _
      · rw [e9]
        rfl
    case body =>
      rintro l pre x a' W hl9 ⟨r9, hr9⟩ ⟨T, q1, q2, q3, q4, q5⟩ ⟨Bx, hBx, hOx, rfl⟩ hlt
      subst hfr
      obtain ⟨j, hj⟩ : ∃ j, L.length - 1 - x = j := ⟨_, rfl⟩
      have hjl : j < L.length := by omega
      obtain ⟨y, hy⟩ : ∃ y, L[j]? = some y := ⟨_, List.getElem?_eq_getElem hjl⟩
      obtain ⟨b', o', eA, hb', hcs', u1', u2', u3', hfI, i1, i2, i3⟩ := HFW.out W q5 j y hy
      have hIC : InstrC lo hi W [i64 y.op, str y.dst, str y.name, u1', u2', u3'] y := ⟨u1', u2', u3', rfl, i1, i2, i3⟩
      rw [hj] at hOx
      rw [hj]
      rw [hfI] at hOx
      rw [hfI]
      have c0 := q3.cell 0
      have x0 := hOx.cell 0
      have x1 := hOx.cell 1
      have x2 := hOx.cell 2
      have x3 := hOx.cell 3
      have x4 := hOx.cell 4
      have x5 := hOx.cell 5
      simp only [List.getElem?_cons_zero, List.getElem?_cons_succ] at c0 x0 x1 x2 x3 x4 x5
      obtain ⟨hdU, hxU⟩ := HUI.out y (HLX.out y (List.mem_of_getElem? hy))
      have HQ := Lib.hid (goBack_any hU lo hi q1 _ y hIC (by have := q5.size; omega) (by omega) hxU (hU.nm _ hdU))
      have HQ2' := Lib.hid q2
      have HQ3 := Lib.hid q3
      have HQ4 := Lib.hid q4
      have HQ5 := Lib.hid q5
      have HY := Lib.hid hy
      have HJ := Lib.hid hj
      clear q1 q2 q3 q4 q5 hy hj hIC i1 i2 i3 hcs' hfI hOx
      gi_wp2
      refine ⟨trivial, ((CallsIn.inRound l (callsIn_wide.2 HQ.out)).mono ?_)⟩
      rintro e w5 ⟨rfl, h5, g5⟩
      have HK5 := Lib.hid (show KeepsFrom W7.heap.size W w5 from KeepsFrom.of_grownBy g5 (fun j e => by cases e; omega))
      have HP5 := Lib.hid (show Kpb hi W3.heap.size W w5 from ⟨(Below.refl hi W).grown g5 (by have := HQ5.out.size; omega) (fun j e => by cases e; omega), g5.block _ (by have := HQ5.out.size; have := HS7.out; omega) (by have := HS3.out; simp; omega)⟩)
      have HO5 := Lib.hid (own_kept HQ3.out g5 (by omega))
      have HB5 := Lib.hid (show Below w.heap.size w w5 from HQ4.out.grown g5 HQ4.out.size (fun j e => by cases e; omega))
      have HC5 := Lib.hid (show Below hi W7 w5 from HQ5.out.grown g5 (by have := HQ5.out.size; omega) (fun j e => by cases e; omega))
      have HST5 := Lib.hid h5
      have HSTEP := Lib.hid (step_backT HY.out HJ.out HQ2'.out)
      clear h5 g5
      gi_wp2
      exact ⟨HK5.out, HP5.out, _, HST5.out, HSTEP.out, HO5.out, HB5.out, HC5.out⟩
    case done =>
      rintro D xs W hD rfl ⟨T, q1, q2, q3, q4, q5⟩ hK
      subst hfr
      have hfin := q2 (by rw [List.length_range]) (by rw [List.length_range]; exact Nat.le_refl _)
      rw [List.length_range, Nat.sub_self, List.drop_zero] at hfin
      have c0 := q3.cell 0
      simp only [List.getElem?_cons_zero] at c0
      have HR := Lib.hid (rising_any hU q1)
      have HQ4 := Lib.hid q4
      have HFIN := Lib.hid hfin
      have HKD := Lib.hid hK
      have hDl : D < W.heap.size := by
        by_cases hh9 : D < W.heap.size
        · exact hh9
        · rw [Array.getElem?_eq_none (by omega)] at hK
          cases hK
      clear q1 q2 q3 q4 q5 hfin hK
      go_wp2_with fail
      refine HR.out.mono ?_
      rintro e w9 ⟨v9, r9, rfl, h1, h2, h3, h4, h5⟩
      obtain ⟨A9', c9', rfl⟩ := row_form h3
      have hK' : w9.heap[D]? = some (.deferred (some [])) := (h5.block D hDl).trans HKD.out
      have gd := grownBy_putObj' w9 D (.deferred none)
      have H1 := Lib.hid h1
      have H2 := Lib.hid h2
      have H3 := Lib.hid (row_other h3 gd (notT_walk ⟨_, hK', rfl⟩ _))
      have H4 := Lib.hid h4
      have H5 := Lib.hid (show Below w.heap.size w (w9.putObj D (.deferred none)) from (HQ4.out.trans (h5.mono HQ4.out.size)).grown gd (Nat.le_trans HQ4.out.size h5.size) (fun j e => by cases e; omega))
      have HKK := Lib.hid hK'
      clear h1 h2 h3 h4 h5 hK' gd
      go_wp2_with fail
      refine ⟨by simp, .inl ⟨_, _, rfl, run_takeDeferred HKK.out, ?_⟩⟩
      refine ⟨.slice A9' r9.length c9', ?_, _, r9, rfl, H1.out, ?_, ownsRow_base_a H3.out HQ4.out.size, H4.out, H5.out⟩
      · simp [results, Try.f13, go_sem]
      · exact fun x => (H2.out x).trans (by rw [HFIN.out, ← HLL.out]; exact HCONV.out x)
end Go.Proofs.Ytaeklfljibjpiaa.Lv12
