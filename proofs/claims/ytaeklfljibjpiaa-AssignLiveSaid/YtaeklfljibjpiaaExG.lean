/-
  Ex13 Law13 AsRef
-/
import Derived.Test.YtaeklfljibjpiaaAsG
import Derived.Test.YtaeklfljibjpiaaLaw12
/-
  Layer 13: the example by which the document fixes what its laws ask: plain.
-/
namespace Go.Proofs.Ytaeklfljibjpiaa.L13
open Go.RowKit Api Mem Sh8 Go.Maps Lv12 As13 L12

abbrev setX : Api.Instr := ⟨24, [120], [], [⟨2, [], 1⟩], [], []⟩
abbrev b0X : Api.Block := ⟨[98, 48], [], [], ⟨2, ⟨1, [107], 0⟩, [[98, 49], [98, 50]], 0⟩⟩
abbrev b1X : Api.Block := ⟨[98, 49], [], [setX], ⟨1, ⟨0, [], 0⟩, [[98, 50]], 0⟩⟩
abbrev b2X (c : List Instr) : Api.Block := ⟨[98, 50], [], c, ⟨3, ⟨1, [120], 0⟩, [], 0⟩⟩
abbrev blX (c : List Instr) : List Api.Block := [b0X, b1X, b2X c]
abbrev fX (c : List Instr) : Api.Func := ⟨[], [], [⟨[107], [105, 110, 116]⟩], [], blX c⟩
abbrev UX : List Wd := [[107], [120]]
theorem uokX : UOk UX := ⟨by decide, by decide⟩
theorem fokX1 : FOk UX (blX []) := ⟨by decide, by decide, by decide, by decide, by decide, by decide, by decide, by decide, by decide, by decide, by decide⟩
theorem fokX2 : FOk UX (blX [setX]) := ⟨by decide, by decide, by decide, by decide, by decide, by decide, by decide, by decide, by decide, by decide, by decide⟩
theorem egX (c : List Instr) : EG (blX c) = [(0, 1), (0, 2), (1, 2)] := by rfl
theorem rightX (c : List Instr) : RightP (blX c) := by
  have r0 : Sh8.Reach (blX c) b0X.name := .head rfl
  have r1 : Sh8.Reach (blX c) b1X.name := .step (b := b0X) (by simp) r0 (by decide)
  have r2 : Sh8.Reach (blX c) (b2X c).name := .step (b := b0X) (by simp) r0 (by show [98, 50] ∈ [[98, 49], [98, 50]]; decide)
  refine ⟨by simp, by show ([[98, 48], [98, 49], [98, 50]] : List Wd).Nodup; decide, fun b hb => ?_, fun b hb => ?_⟩
  · simp only [List.mem_cons, List.not_mem_nil, or_false] at hb
    rcases hb with rfl | rfl | rfl
    · refine ⟨by decide, ?_⟩
      show ∀ x ∈ ([[98, 49], [98, 50]] : List Wd), x ∈ ([[98, 48], [98, 49], [98, 50]] : List Wd) ∧ ([[98, 48], [98, 49], [98, 50]] : List Wd)[0]? ≠ some x
      decide
    · refine ⟨by decide, ?_⟩
      show ∀ x ∈ ([[98, 50]] : List Wd), x ∈ ([[98, 48], [98, 49], [98, 50]] : List Wd) ∧ ([[98, 48], [98, 49], [98, 50]] : List Wd)[0]? ≠ some x
      decide
    · exact ⟨List.nodup_nil, fun x h => by cases h⟩
  · simp only [List.mem_cons, List.not_mem_nil, or_false] at hb
    rcases hb with rfl | rfl | rfl
    · exact r0
    · exact r1
    · exact r2
/-- at the last block the parameter alone is set along every way. -/
theorem setX2 (x : Wd) : x ∈ ([[107]] : List Wd) ↔ SetF (fX []) 2 x := by
  have hk : ∀ i y, UnF (fX []) i y → y ≠ [107] := fun i y h => by
    induction h with
    | start hp => rintro rfl; exact hp (by simp [parN])
    | step _ _ _ _ ih => exact ih
  constructor
  · intro h hu
    rw [List.mem_singleton] at h
    exact hk 2 x hu h
  · intro h
    apply Classical.byContradiction
    intro hx
    rw [List.mem_singleton] at hx
    refine h (.step (a := 0) (by rw [egX]; simp) (.start (by simpa [parN] using hx)) ?_ ?_)
    · rfl
    · rfl
/-- x is used at the last block, and a way to it sets none. -/
theorem notX : ¬ SoundP (fX []) b0X := by
  intro h
  have h2 : LvB (blX []) 2 [120] := .gen (by decide)
  have h0 : LvB (blX []) 0 [120] := .step (i := 0) (j := 2) (by decide) h2 (by decide) (by decide)
  have := h [120] ((lv_at0 (i := 0) (b := b0X) rfl [120]).1 h0)
  simp at this
theorem huX : usesPh (blX [setX]) (EG (blX [setX])) 3 = [] := by rfl
theorem soundX : SoundP (fX [setX]) b0X := by
  have hl : ∀ i y, LvB (blX [setX]) i y → i = 0 ∧ y = [107] := fun i y h => by
    induction h with
    | @gen i y hg =>
      simp only [GG, Bool.and_eq_true, decide_eq_true_eq] at hg
      obtain ⟨hi, hg⟩ := hg
      have hi3 : i < 3 := hi
      rcases (by omega : i = 0 ∨ i = 1 ∨ i = 2) with rfl | rfl | rfl
      · rw [(SF_in (bl := blX [setX]) (i := 0) (b := b0X) rfl).2.2.2] at hg
        simpa [backL, backI, endS, usesT, usesI, namesA, namesF, namesO, namesB, orS, delS, huX] using hg
      · rw [(SF_in (bl := blX [setX]) (i := 1) (b := b1X) rfl).2.2.2] at hg
        simp [backL, backI, endS, usesT, usesI, namesA, namesF, namesO, namesB, orS, delS, huX] at hg
      · rw [(SF_in (bl := blX [setX]) (i := 2) (b := b2X [setX]) rfl).2.2.2] at hg
        simp [backL, backI, endS, usesT, usesI, namesA, namesF, namesO, namesB, orS, delS, huX] at hg
    | @step i j y he _ _ _ ih =>
      rw [egX] at he
      obtain ⟨rfl, _⟩ := ih
      simp at he
  intro x hx
  have := (hl 0 x ((lv_at0 (i := 0) (b := b0X) rfl x).2 hx)).2
  rw [this]
  simp
end Go.Proofs.Ytaeklfljibjpiaa.L13

/-
  Layer 13: what the laws share: the answers that the document fixes.
-/
namespace Go.Proofs.Ytaeklfljibjpiaa.L13
open Go.RowKit Api Mem Sh8 Go.Maps Lv12 As13 L12

theorem row_three13 {α : Type} {hi size : Nat} {w : World} {g : Nat} {t : TypeId} {cs ds es : List Value} {P : List Value → α → Prop} {x y z : α} (o : Mem.Own w g t (cs ++ ds ++ es)) (hg : g < hi) (hs : cs.length = size) (hs2 : ds.length = size) (hs3 : es.length = size) (hp : P cs x) (hp2 : P ds y) (hp3 : P es z) : Row 0 hi w size P (.slice (some ⟨g, 0, none⟩) 3 3) [x, y, z] := by
  refine ⟨_, 3, 3, g, 0, rfl, rfl, ⟨by omega, by omega⟩, fun _ => ⟨rfl, Nat.zero_le _, hg⟩, fun i u hu => ?_⟩
  match i, hu with
  | 0, hu =>
    obtain rfl : x = u := by simpa using hu
    refine ⟨cs, hs, fun j v hj => ?_, hp⟩
    have h1 := (List.getElem?_eq_some_iff.1 hj).1
    rw [show 0 + 0 * size + j = j by omega, o.cell, List.append_assoc, List.getElem?_append_left h1]
    exact hj
  | 1, hu =>
    obtain rfl : y = u := by simpa using hu
    refine ⟨ds, hs2, fun j v hj => ?_, hp2⟩
    have h1 := (List.getElem?_eq_some_iff.1 hj).1
    rw [show 0 + 1 * size + j = cs.length + j by omega, o.cell, List.append_assoc, List.getElem?_append_right (by omega), Nat.add_sub_cancel_left, List.getElem?_append_left h1]
    exact hj
  | 2, hu =>
    obtain rfl : z = u := by simpa using hu
    refine ⟨es, hs3, fun j v hj => ?_, hp3⟩
    have h1 := (List.getElem?_eq_some_iff.1 hj).1
    rw [show 0 + 2 * size + j = (cs ++ ds).length + j by rw [List.length_append]; omega, o.cell, List.getElem?_append_right (by omega), Nat.add_sub_cancel_left]
    exact hj
  | i + 3, hu => simp at hu
abbrev setC (ga : Nat) : List Value := [i64 24, str [120], str [], .slice (some ⟨ga, 0, none⟩) 1 1, nilS, nilS]
abbrev c0X (gd : Nat) : List Value := [str [98, 48], nilS, nilS, i64 2, i64 1, str [107], i64 0, .slice (some ⟨gd, 0, none⟩) 2 2, i64 0]
abbrev c1X (gc gt : Nat) : List Value := [str [98, 49], nilS, .slice (some ⟨gc, 0, none⟩) 1 1, i64 1, i64 0, str [], i64 0, .slice (some ⟨gt, 0, none⟩) 1 1, i64 0]
abbrev c2X (u : Value) : List Value := [str [98, 50], nilS, u, i64 3, i64 1, str [120], i64 0, nilS, i64 0]
/-- the example in memory. -/
structure AX (w : World) (gb gp gd gc gt ga : Nat) (u : Value) : Prop where
  b : Mem.Own w gb 42 (c0X gd ++ c1X gc gt ++ c2X u)
  p : Mem.Own w gp 34 [str [107], str [105, 110, 116]]
  d : Mem.Own w gd 9 ([str [98, 49]] ++ [str [98, 50]])
  c : Mem.Own w gc 51 (setC ga)
  t : Mem.Own w gt 9 [str [98, 50]]
  a : Mem.Own w ga 38 [i64 2, str [], i64 1]
theorem AX.below {w w' : World} {gb gp gd gc gt ga : Nat} {u : Value} (h : AX w gb gp gd gc gt ga u) (hb : Below w.heap.size w w') : AX w' gb gp gd gc gt ga u :=
  ⟨h.b.below hb h.b.lt, h.p.below hb h.p.lt, h.d.below hb h.d.lt, h.c.below hb h.c.lt, h.t.below hb h.t.lt, h.a.below hb h.a.lt⟩
abbrev fCX (gp gb : Nat) : List Value := [str [], str [], .slice (some ⟨gp, 0, none⟩) 1 1, nilS, .slice (some ⟨gb, 0, none⟩) 3 3]
theorem AX.func {w : World} {gb gp gd gc gt ga : Nat} {u : Value} {c : List Instr} (h : AX w gb gp gd gc gt ga u) (hu : Row 0 w.heap.size w 6 (InstrC 0 w.heap.size w) u c) : FuncC 0 w.heap.size w (fCX gp gb) (fX c) := by
  have hset : InstrC 0 w.heap.size w (setC ga) setX := ⟨_, _, _, rfl, row_one12 h.a h.a.lt rfl rfl, row_zero12, row_zero12⟩
  refine ⟨_, _, _, rfl, row_one12 h.p h.p.lt rfl rfl, row_zero12, row_three13 h.b h.b.lt rfl rfl rfl ?_ ?_ ?_⟩
  · exact ⟨_, _, _, rfl, row_zero12, row_zero12, _, rfl, row_two12 h.d h.d.lt rfl rfl rfl rfl⟩
  · exact ⟨_, _, _, rfl, row_zero12, row_one12 h.c h.c.lt rfl hset, _, rfl, row_one12 h.t h.t.lt rfl rfl⟩
  · exact ⟨_, _, _, rfl, row_zero12, hu, _, rfl, row_zero12⟩
theorem AX.code {w : World} {gb gp gd gc gt ga g2 : Nat} {u : Value} (h : AX w gb gp gd gc gt ga u) (h2 : Mem.Own w g2 51 (setC ga)) : Row 0 w.heap.size w 6 (InstrC 0 w.heap.size w) (.slice (some ⟨g2, 0, none⟩) 1 1) [setX] :=
  row_one12 h2 h2.lt rfl ⟨_, _, _, rfl, row_one12 h.a h.a.lt rfl rfl, row_zero12, row_zero12⟩
theorem ins_c {w : World} {gb gp gd gc gt ga : Nat} (h : AX w gb gp gd gc gt ga nilS) : Calls Try.prog 8 #[.agg (fCX gp gb).toArray] w (Ins13P (fX []) w) :=
  ins13_any uokX 0 _ w (fCX gp gb) (fX []) (h.func row_zero12) (Nat.le_refl _) fokX1 (by decide) (by decide) (by decide) (rightX _)
theorem right_1 {w : World} {gb gp gd gc gt ga : Nat} (h : AX w gb gp gd gc gt ga nilS) : Calls Try.prog 12 #[.agg (fCX gp gb).toArray] w fun e w' => e = .returned (.bool false) ∧ Below w.heap.size w w' :=
  (right13_any uokX 0 _ w (fCX gp gb) (fX []) (h.func row_zero12) (Nat.le_refl _) fokX1 (by decide) b0X rfl).mono fun e w' ⟨b, he, hb, hw⟩ => ⟨by
    cases b with
    | false => exact he
    | true => exact absurd (hb.1 rfl) notX, hw⟩
theorem right_2 {w : World} {gb gp gd gc gt ga g2 : Nat} (h : AX w gb gp gd gc gt ga (.slice (some ⟨g2, 0, none⟩) 1 1)) (h2 : Mem.Own w g2 51 (setC ga)) : Calls Try.prog 12 #[.agg (fCX gp gb).toArray] w fun e w' => e = .returned (.bool true) ∧ Below w.heap.size w w' :=
  (right13_any uokX 0 _ w (fCX gp gb) (fX [setX]) (h.func (h.code h2)) (Nat.le_refl _) fokX2 (by decide) b0X rfl).mono fun e w' ⟨b, he, hb, hw⟩ => ⟨by
    rw [he, hb.2 soundX], hw⟩
theorem made13 {w : World} {t : TypeId} {cs : List Value} {g : Nat} (hg : g = w.heap.size) : Mem.Own (w.alloc (.cells cs.toArray t)) g t cs := by
  subst hg
  exact Mem.Own.made w t cs
/-- the example as it is laid. -/
def litX (w : World) : World :=
  ((((((((w.alloc (.cells [i64 1, str [120], i64 0].toArray 38)).alloc (.cells [i64 2, str [], i64 1].toArray 38)).alloc (.cells (setC (w.heap.size + 1)).toArray 51)).alloc (.cells [str [107], str [105, 110, 116]].toArray 34)).alloc (.cells ([str [98, 49]] ++ [str [98, 50]]).toArray 9)).alloc (.cells (setC (w.heap.size + 1)).toArray 51)).alloc (.cells [str [98, 50]].toArray 9)).alloc (.cells (c0X (w.heap.size + 1 + 1 + 1 + 1) ++ c1X (w.heap.size + 1 + 1 + 1 + 1 + 1) (w.heap.size + 1 + 1 + 1 + 1 + 1 + 1) ++ c2X nilS).toArray 42)).alloc (.cells (fCX (w.heap.size + 1 + 1 + 1) (w.heap.size + 1 + 1 + 1 + 1 + 1 + 1 + 1)).toArray 25)
set_option maxHeartbeats 2000000 in
theorem litX_ax (w : World) : AX (litX w) (w.heap.size + 1 + 1 + 1 + 1 + 1 + 1 + 1) (w.heap.size + 1 + 1 + 1) (w.heap.size + 1 + 1 + 1 + 1) (w.heap.size + 1 + 1 + 1 + 1 + 1) (w.heap.size + 1 + 1 + 1 + 1 + 1 + 1) (w.heap.size + 1) nilS := by
  unfold litX
  exact ⟨(made13 (by simp)).alloc _, (((((made13 (by simp)).alloc _).alloc _).alloc _).alloc _).alloc _, ((((made13 (by simp)).alloc _).alloc _).alloc _).alloc _, (((made13 (by simp)).alloc _).alloc _).alloc _, ((made13 (by simp)).alloc _).alloc _, (((((((made13 (by simp)).alloc _).alloc _).alloc _).alloc _).alloc _).alloc _).alloc _⟩
theorem litX_f (w : World) : Mem.Own (litX w) (w.heap.size + 1 + 1 + 1 + 1 + 1 + 1 + 1 + 1) 25 (fCX (w.heap.size + 1 + 1 + 1) (w.heap.size + 1 + 1 + 1 + 1 + 1 + 1 + 1)) := by
  unfold litX
  exact made13 (by simp)
theorem litX_s (w : World) : Mem.Own (litX w) (w.heap.size + 1 + 1) 51 (setC (w.heap.size + 1)) := by
  unfold litX
  exact (((((((made13 (by simp)).alloc _).alloc _).alloc _).alloc _).alloc _).alloc _)
theorem litX_b (w : World) : Below w.heap.size w (litX w) := by
  unfold litX
  exact (((((((((Below.refl _ w).alloc (Nat.le_refl _) _).alloc (by simp) _).alloc (by simp; omega) _).alloc (by simp; omega) _).alloc (by simp; omega) _).alloc (by simp; omega) _).alloc (by simp; omega) _).alloc (by simp; omega) _).alloc (by simp; omega) _
set_option maxRecDepth 100000 in
set_option maxHeartbeats 16000000 in
theorem awake13_any (w : World) : Calls Try.prog 6 #[] w fun e w' => e = .returned (.bool true) ∧ Below w.heap.size w w' := by
  go_enter Try.func6, Try.ntmps6
  go_wp2_with fail
  change Calls _ _ _ (litX w) _
  have HA := Lib.hid (litX_ax w)
  have HF := Lib.hid (litX_f w)
  have HS := Lib.hid (litX_s w)
  have HB := Lib.hid (litX_b w)
  refine (ins_c HA.out).mono ?_
  rintro e w2 ⟨Bv, rfl, hr2, hb2⟩
  have HA2 := Lib.hid (HA.out.below hb2)
  have HF2 := Lib.hid (HF.out.below hb2 HF.out.lt)
  have HS2 := Lib.hid (HS.out.below hb2 HS.out.lt)
  have HB2 := Lib.hid (HB.out.trans (hb2.mono HB.out.size))
  have HR2 := Lib.hid hr2
  have HQ2 := Lib.hid (right_1 HA2.out)
  have f0 := HF2.out.cell 0
  have f1 := HF2.out.cell 1
  have f2 := HF2.out.cell 2
  have f3 := HF2.out.cell 3
  have f4 := HF2.out.cell 4
  simp only [List.getElem?_cons_zero, List.getElem?_cons_succ] at f0 f1 f2 f3 f4
  clear HA HF HS hr2 hb2
  go_wp2_with fail
  refine HQ2.out.mono ?_
  rintro e w3 ⟨rfl, hb3⟩
  have HA3 := Lib.hid (HA2.out.below hb3)
  have HF3 := Lib.hid (HF2.out.below hb3 HF2.out.lt)
  have HS3 := Lib.hid (HS2.out.below hb3 HS2.out.lt)
  have HB3 := Lib.hid (HB2.out.trans (hb3.mono HB2.out.size))
  have HR3 := Lib.hid (HR2.out.below hb3)
  clear f0 f1 f2 f3 f4 hb3 HQ2 HA2 HF2 HS2 HB2 HR2
  have f0 := HF3.out.cell 0
  have f1 := HF3.out.cell 1
  have f2 := HF3.out.cell 2
  have f3 := HF3.out.cell 3
  have f4 := HF3.out.cell 4
  have s0 := HS3.out.cell 0
  have s1 := HS3.out.cell 1
  have s2 := HS3.out.cell 2
  have s3 := HS3.out.cell 3
  have s4 := HS3.out.cell 4
  have s5 := HS3.out.cell 5
  have x20 := HA3.out.b.cell 20
  have t20 := HA3.out.b.thaw 20
  simp only [List.getElem?_cons_zero, List.getElem?_cons_succ, List.cons_append, List.nil_append] at f0 f1 f2 f3 f4 s0 s1 s2 s3 s4 s5 x20
  clear x20 t20
  have HA4 := Lib.hid (HA3.out.below (show Below w3.heap.size w3 (w3.alloc (.cells #[i64 24, str [120], str [], .slice (some ⟨w.heap.size + 1, 0, none⟩) 1 1, nilS, nilS] 51)) from (Below.refl _ _).alloc (Nat.le_refl _) _))
  have x20 := HA4.out.b.cell 20
  have t20 := HA4.out.b.thaw 20
  simp only [List.getElem?_cons_zero, List.getElem?_cons_succ, List.cons_append, List.nil_append] at x20
  obtain ⟨vs, r1, r2, r3, r4⟩ := HR3.out
  obtain ⟨v2, rr, e2, q1, q2, q3⟩ := r4 2 (by decide)
  obtain rfl : rr = [[107]] := rise_eq q1 ⟨by decide, by decide⟩ fun x => (q2 x).trans (setX2 x).symm
  have HV := Lib.hid r1
  have HVE := Lib.hid e2
  have HVR := Lib.hid q3
  clear r1 r2 r3 r4 q1 q2 q3 e2 HR3
  obtain ⟨w5, hw5⟩ : ∃ w5, (w3.alloc (.cells #[i64 24, str [120], str [], .slice (some ⟨w.heap.size + 1, 0, none⟩) 1 1, nilS, nilS] 51)).setCell ⟨w.heap.size + 1 + 1 + 1 + 1 + 1 + 1 + 1, 20, none⟩ (.slice (some ⟨w3.heap.size, 0, none⟩) 1 1) = w5 := ⟨_, rfl⟩
  have HW5 := Lib.hid hw5
  have b34 : Below w3.heap.size w3 (w3.alloc (.cells #[i64 24, str [120], str [], .slice (some ⟨w.heap.size + 1, 0, none⟩) 1 1, nilS, nilS] 51)) := (Below.refl _ _).alloc (Nat.le_refl _) _
  have hkeep : ∀ (q : Nat) (t : TypeId) (cs : List Value), Mem.Own w3 q t cs → t ≠ 42 → Mem.Own w5 q t cs := fun q t cs h ht => by
    rw [← hw5]
    exact keep1 (h.below b34 h.lt) (own_ne (h.below b34 h.lt) HA4.out.b ht)
  have HG5 := Lib.hid (show Mem.Own w5 w3.heap.size 51 (setC (w.heap.size + 1)) by
    rw [← hw5]
    have h := Mem.Own.made w3 51 (setC (w.heap.size + 1))
    exact keep1 h (own_ne h HA4.out.b (by decide)))
  have HA5 := Lib.hid (show AX w5 (w.heap.size + 1 + 1 + 1 + 1 + 1 + 1 + 1) (w.heap.size + 1 + 1 + 1) (w.heap.size + 1 + 1 + 1 + 1) (w.heap.size + 1 + 1 + 1 + 1 + 1) (w.heap.size + 1 + 1 + 1 + 1 + 1 + 1) (w.heap.size + 1) (.slice (some ⟨w3.heap.size, 0, none⟩) 1 1) from
    ⟨by rw [← hw5]; exact HA4.out.b.store 20 _, hkeep _ _ _ HA3.out.p (by decide), hkeep _ _ _ HA3.out.d (by decide), hkeep _ _ _ HA3.out.c (by decide), hkeep _ _ _ HA3.out.t (by decide), hkeep _ _ _ HA3.out.a (by decide)⟩)
  have HF5 := Lib.hid (hkeep _ _ _ HF3.out (by decide))
  have HV5 := Lib.hid (hkeep _ _ _ HV.out (by decide))
  have HVR5 := Lib.hid (show w5.ownsRow (litX w).heap.size 9 1 v2 1 [str [107]] from by
    rw [← hw5]
    exact row_other (own_below HVR.out b34) (grown_cell _ _ _) (notT_own HA4.out.b (by decide)))
  have HB5 := Lib.hid (show Below w.heap.size w w5 by
    rw [← hw5]
    exact (HB3.out.trans (b34.mono HB3.out.size)).setCell (by show w.heap.size ≤ w.heap.size + 1 + 1 + 1 + 1 + 1 + 1 + 1; omega) _)
  obtain ⟨A9, k9, rfl⟩ := row_form HVR5.out
  have l2 := HV5.out.cell 2
  rw [HVE.out, ← HW5.out] at l2
  clear hw5 b34 hkeep HV HVR HF3 HS3 HB3
  go_wp2_with fail
  rw [HW5.out]
  have hz5 : w3.heap.size + 1 = w5.heap.size := by rw [← HW5.out]; simp
  have b56 : Below w5.heap.size w5 (w5.alloc (.cells #[.string ⟨#[107]⟩] 9)) := (Below.refl _ _).alloc (Nat.le_refl _) _
  refine (same12_any (litX w).heap.size (w5.alloc (.cells #[.string ⟨#[107]⟩] 9)).heap.size 0 (w5.alloc (.cells #[.string ⟨#[107]⟩] 9)).heap.size _ _ _ [[107]] [[107]] (texts_own (own_below HVR5.out b56) rfl (by decide)) (row_one12 (made13 (cs := [str [107]]) hz5) (by simp; omega) rfl rfl) (Nat.le_refl _) (Nat.le_refl _)).mono ?_
  rintro e w6 ⟨b, rfl, hb, hb6⟩
  obtain rfl : b = true := hb.2 rfl
  have b57 := b56.trans (hb6.mono b56.size)
  have HA6 := Lib.hid (HA5.out.below b57)
  have HG6 := Lib.hid (HG5.out.below b57 HG5.out.lt)
  have HF6 := Lib.hid (HF5.out.below b57 HF5.out.lt)
  have HB6 := Lib.hid (HB5.out.trans (b57.mono HB5.out.size))
  clear b56 hb6 hb b57 hz5 f0 f1 f2 f3 f4 s0 s1 s2 s3 s4 s5 x20 t20 l2 HA5 HG5 HF5 HB5
  have f0 := HF6.out.cell 0
  have f1 := HF6.out.cell 1
  have f2 := HF6.out.cell 2
  have f3 := HF6.out.cell 3
  have f4 := HF6.out.cell 4
  simp only [List.getElem?_cons_zero, List.getElem?_cons_succ] at f0 f1 f2 f3 f4
  go_wp2_with fail
  refine (right_2 HA6.out HG6.out).mono ?_
  rintro e w7 ⟨rfl, hb7⟩
  go_wp2_with fail
  refine bodyPost_ret (results_tmp rfl _ _ _) rfl ⟨rfl, HB6.out.trans (hb7.mono HB6.out.size)⟩
end Go.Proofs.Ytaeklfljibjpiaa.L13

/-
  Layer 13: the document's own function: whether a name is a parameter's.
-/
namespace Go.Proofs.Ytaeklfljibjpiaa.As13
open Go.RowKit Api Mem Sh8 Go.Maps Lv12

set_option maxRecDepth 100000 in
set_option maxHeartbeats 8000000 in
theorem param_any (lo hi : Nat) (w : World) (cs : List Value) (f : Api.Func) (hf : FuncC lo hi w cs f) (hh : hi ≤ w.heap.size) (s : Wd) :
    Calls Try.prog 14 #[.agg cs.toArray, str s] w (Fl9.BP9 (s ∈ f.params.map (·.name)) w) := by
  obtain ⟨u1, u2, u3, rfl, kp, kv, kb⟩ := hf
  obtain ⟨nm, rs, ps, vs, bl⟩ := f
  simp only at kp kv kb ⊢
  obtain ⟨A1, k1, rfl⟩ := kp.form
  obtain ⟨A2, k2, rfl⟩ := kv.form
  obtain ⟨A3, k3, rfl⟩ := kb.form
  have hpl : ps.length ≤ 4611686018427387903 := by obtain ⟨_, _, _, h, _⟩ := Row.get kp; exact h
  obtain ⟨W, hW⟩ : ∃ W, w.alloc (.cells #[str nm, str rs, .slice A1 ps.length k1, .slice A2 vs.length k2, .slice A3 bl.length k3] 25) = W := ⟨_, rfl⟩
  obtain ⟨o1, b1, z1⟩ := box8 (c := [str nm, str rs, .slice A1 ps.length k1, .slice A2 vs.length k2, .slice A3 bl.length k3]) hW
  have HB := Lib.hid b1
  have HO := Lib.hid o1
  have HW := Lib.hid hW
  have KP := Lib.hid kp
  clear kp kv kb o1 b1 hW z1
  go_enter Try.func14, Try.ntmps14
  go_wp2_with fail
  rw [HW.out]
  go_loopw [5] (fun iv wr => ∃ k : Nat, k ≤ ps.length ∧ iv = .int .i64 k ∧ Hid (s ∉ (ps.map (·.name)).take k) ∧ wr = W) (fun iv _ => ps.length - (intOf iv).toNat)
  case atStart => exact ⟨0, Nat.zero_le _, rfl, Lib.hid (by simp), rfl⟩
  case round =>
  obtain ⟨k, hk, rfl, HN, rfl⟩ := hrel
  have f0 := HO.out.cell 0
  have f1 := HO.out.cell 1
  have f2 := HO.out.cell 2
  have f3 := HO.out.cell 3
  have f4 := HO.out.cell 4
  simp only [List.getElem?_cons_zero, List.getElem?_cons_succ] at f0 f1 f2 f3 f4
  by_cases hlt : k < ps.length
  · obtain ⟨v, hx⟩ : ∃ y, ps[k]? = some y := ⟨_, List.getElem?_eq_getElem hlt⟩
    obtain ⟨b3, o3, rfl, hb3, cs3, hcl3, hcs3, e3⟩ := row_at KP.out hx
    subst e3
    obtain ⟨m0, m1⟩ := at2 (cells_later hcs3 (HB.out.mono hh) hb3)
    have HX := Lib.hid (show (ps.map (·.name))[k]? = some v.name by rw [List.getElem?_map, hx]; rfl)
    obtain ⟨d, hd⟩ : ∃ d, decide (v.name = s) = d := ⟨_, rfl⟩
    have hdd : (v.name == s) = d := by
      rw [← hd]
      by_cases e : v.name = s <;> simp [e]
    have HD := Lib.hid hd
    clear hx hcs3 hd
    cases d with
    | true =>
      go_wp2_with fail
      go_ret
      exact ⟨true, rfl, ⟨fun _ => by rw [← of_decide_eq_true HD.out]; exact List.mem_of_getElem? HX.out, fun _ => rfl⟩, HB.out⟩
    | false =>
      go_wp2_with fail
      go_roundw
      case rel => exact ⟨k + 1, by omega, by go_num, Lib.hid (by
        rw [take_at HX.out, List.mem_append, not_or]
        exact ⟨HN.out, by rw [List.mem_singleton]; exact fun e => of_decide_eq_false HD.out e.symm⟩), trivial⟩
      case measure => simp [intOf]; omega
  · obtain rfl : k = ps.length := by omega
    have HF := Lib.hid (show s ∉ ps.map (·.name) by have := HN.out; rwa [List.take_of_length_le (by rw [List.length_map]; exact Nat.le_refl _)] at this)
    go_wp2_with fail
    go_ret
    exact ⟨false, rfl, ⟨fun h => (by cases h), fun h => absurd h HF.out⟩, HB.out⟩
end Go.Proofs.Ytaeklfljibjpiaa.As13
