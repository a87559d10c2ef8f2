/-
  Layer 12: what the laws share: the answers that the document fixes.
-/
import Derived.Test.YtaeklfljibjpiaaLvAt
import Derived.Test.YtaeklfljibjpiaaLvRefU
import Derived.Test.YtaeklfljibjpiaaLvFacts
import Derived.Laws.ResultCell
namespace Go.Proofs.Ytaeklfljibjpiaa.L12
open Go.RowKit Api Mem Sh8 Go.Maps Lv12
theorem results_cell12 {fn : Func} {p : Tmp} {ty : TypeId} (h : fn.results = #[.cell p ty]) (tmps : Array Value) (P : Program) (w : World) :
    (results fn tmps).run P w = ((asAddr (tmps.getD p undef)).run P w).andThen fun a w₁ => (loadVar ty a).run P w₁ := by
  simp only [results, h]
  simp [Sem.run_bind, Result.andThen]
/-- the slots. -/
def mkA (F : Nat → Value) : Go.Act := { tmps := #[F 0, F 1, F 2, F 3, F 4, F 5, F 6, F 7, F 8, F 9, F 10, F 11, F 12, F 13, F 14, F 15, F 16, F 17, F 18, F 19, F 20, F 21, F 22, F 23, F 24, F 25, F 26, F 27, F 28, F 29, F 30, F 31, F 32, F 33, F 34, F 35, F 36, F 37, F 38, F 39, F 40], defers := [] }
def dst2 (j : Nat) : Nat := [5,6,7,8,9,10,11,12,13,14,15,2,2].getD j 0
def deps2 (j : Nat) : List Nat := [[],[0],[1],[],[3],[3,4],[5],[2,6],[4],[8],[7,9],[],[0,1,2,3,4,5,6,7,8,9,10,11]].getD j []
abbrev nilS : Value := .slice none 0 0
def A1 (b0 : Nat) (w : World) (g : Nat) : Prop := Mem.Own w g 38 [i64 2, str [], i64 1] ∧ b0 ≤ g
def A2 (b0 : Nat) (w : World) (g : Nat) : Prop := Mem.Own w g 38 [i64 1, str [120], i64 0, i64 1, str [122], i64 0] ∧ b0 ≤ g
abbrev i0C (g : Nat) : List Value := [i64 24, str [120], str [], .slice (some ⟨g, 0, none⟩) 1 1, nilS, nilS]
abbrev i1C (g : Nat) : List Value := [i64 1, str [121], str [], .slice (some ⟨g, 0, none⟩) 2 2, nilS, nilS]
def A3 (b0 : Nat) (w : World) (g : Nat) : Prop := ∃ g1 g2, Mem.Own w g 51 (i0C g1 ++ i1C g2) ∧ A1 b0 w g1 ∧ A2 b0 w g2 ∧ b0 ≤ g
abbrev bC (g : Nat) : List Value := [str [98], nilS, .slice (some ⟨g, 0, none⟩) 2 2, i64 3, i64 1, str [121], i64 0, nilS, i64 0]
/-- what holds of each operation. -/
def fact2 (b0 : Nat) : Nat → Value → World → Prop
  | 0, v, _ => v = .agg #[i64 2, str [], i64 1]
  | 1, v, w => ∃ g, v = .slice (some ⟨g, 0, none⟩) 1 1 ∧ A1 b0 w g
  | 2, v, w => ∃ g, v = .agg (i0C g).toArray ∧ A1 b0 w g
  | 3, v, _ => v = .agg #[i64 1, str [120], i64 0]
  | 4, v, _ => v = .agg #[i64 1, str [122], i64 0]
  | 5, v, w => ∃ g, v = .slice (some ⟨g, 0, none⟩) 2 2 ∧ A2 b0 w g
  | 6, v, w => ∃ g, v = .agg (i1C g).toArray ∧ A2 b0 w g
  | 7, v, w => ∃ g, v = .slice (some ⟨g, 0, none⟩) 2 2 ∧ A3 b0 w g
  | 8, v, _ => v = .agg #[i64 1, str [121], i64 0]
  | 9, v, _ => v = .agg #[i64 3, i64 1, str [121], i64 0, nilS, i64 0]
  | 10, v, w => ∃ g, v = .agg (bC g).toArray ∧ A3 b0 w g
  | 11, v, w => ∃ p cs, v = .pointer (some ⟨p, 0, none⟩) ∧ Mem.Own w p 42 cs ∧ cs.length = 9 ∧ b0 ≤ p
  | _, v, w => ∃ p g, v = .pointer (some ⟨p, 0, none⟩) ∧ Mem.Own w p 42 (bC g) ∧ b0 ≤ p ∧ A3 b0 w g
theorem A1.below {b0 : Nat} {w w' : World} {g : Nat} (h : A1 b0 w g) (hb : Below w.heap.size w w') : A1 b0 w' g := ⟨h.1.below hb h.1.lt, h.2⟩
theorem A2.below {b0 : Nat} {w w' : World} {g : Nat} (h : A2 b0 w g) (hb : Below w.heap.size w w') : A2 b0 w' g := ⟨h.1.below hb h.1.lt, h.2⟩
theorem A3.below {b0 : Nat} {w w' : World} {g : Nat} (h : A3 b0 w g) (hb : Below w.heap.size w w') : A3 b0 w' g := by
  obtain ⟨g1, g2, h1, h2, h3, h4⟩ := h
  exact ⟨g1, g2, h1.below hb h1.lt, h2.below hb, h3.below hb, h4⟩
theorem fact2_mono {b0 : Nat} {w w' : World} (hb : Below w.heap.size w w') : ∀ (j : Nat) (v : Value), fact2 b0 j v w → fact2 b0 j v w'
  | 0, _, h => h
  | 1, _, ⟨g, h, k⟩ => ⟨g, h, k.below hb⟩
  | 2, _, ⟨g, h, k⟩ => ⟨g, h, k.below hb⟩
  | 3, _, h => h
  | 4, _, h => h
  | 5, _, ⟨g, h, k⟩ => ⟨g, h, k.below hb⟩
  | 6, _, ⟨g, h, k⟩ => ⟨g, h, k.below hb⟩
  | 7, _, ⟨g, h, k⟩ => ⟨g, h, k.below hb⟩
  | 8, _, h => h
  | 9, _, h => h
  | 10, _, ⟨g, h, k⟩ => ⟨g, h, k.below hb⟩
  | 11, _, ⟨p, cs, h, k, l, m⟩ => ⟨p, cs, h, k.below hb k.lt, l, m⟩
  | _ + 12, _, ⟨p, g, h, k, l, m⟩ => ⟨p, g, h, k.below hb k.lt, l, m.below hb⟩
def Bs2 (w0 : World) (F : Nat → Value) (w : World) : Prop := F 0 = .bool false ∧ F 1 = .pointer (some ⟨w0.heap.size, 0, none⟩) ∧ Mem.Own w w0.heap.size 38 [i64 2, str [], i64 1] ∧ Below w0.heap.size w0 w
/-- A row of one, just laid. -/
theorem row_one12 {α : Type} {hi size : Nat} {w : World} {g : Nat} {t : TypeId} {cs : List Value} {P : List Value → α → Prop} {x : α} (o : Mem.Own w g t cs) (hg : g < hi) (hs : cs.length = size) (hp : P cs x) : Row 0 hi w size P (.slice (some ⟨g, 0, none⟩) 1 1) [x] := by
  refine ⟨_, 1, 1, g, 0, rfl, rfl, ⟨by omega, by omega⟩, fun _ => ⟨rfl, Nat.zero_le _, hg⟩, fun i y hy => ?_⟩
  match i, hy with
  | 0, hy =>
    obtain rfl : x = y := by simpa using hy
    exact ⟨cs, hs, fun j u hj => by rw [show 0 + 0 * size + j = j by omega]; exact (o.cell j).trans hj, hp⟩
  | i + 1, hy => simp at hy
theorem row_two12 {α : Type} {hi size : Nat} {w : World} {g : Nat} {t : TypeId} {cs ds : List Value} {P : List Value → α → Prop} {x y : α} (o : Mem.Own w g t (cs ++ ds)) (hg : g < hi) (hs : cs.length = size) (hs2 : ds.length = size) (hp : P cs x) (hp2 : P ds y) : Row 0 hi w size P (.slice (some ⟨g, 0, none⟩) 2 2) [x, y] := by
  refine ⟨_, 2, 2, g, 0, rfl, rfl, ⟨by omega, by omega⟩, fun _ => ⟨rfl, Nat.zero_le _, hg⟩, fun i z hz => ?_⟩
  match i, hz with
  | 0, hz =>
    obtain rfl : x = z := by simpa using hz
    refine ⟨cs, hs, fun j u hj => ?_, hp⟩
    rw [show 0 + 0 * size + j = j by omega, o.cell, List.getElem?_append_left (List.getElem?_eq_some_iff.1 hj).1]
    exact hj
  | 1, hz =>
    obtain rfl : y = z := by simpa using hz
    refine ⟨ds, hs2, fun j u hj => ?_, hp2⟩
    rw [show 0 + 1 * size + j = cs.length + j by omega, o.cell, List.getElem?_append_right (by omega), Nat.add_sub_cancel_left]
    exact hj
  | i + 2, hz => simp at hz
theorem row_zero12 {α : Type} {hi size : Nat} {w : World} {P : List Value → α → Prop} : Row 0 hi w size P nilS ([] : List α) := ⟨none, 0, 0, 0, 0, rfl, rfl, by omega, by omega, fun i x h => by simp at h⟩
/-- awake's function. -/
abbrev i0A : Api.Instr := ⟨24, [120], [], [⟨2, [], 1⟩], [], []⟩
abbrev i1A : Api.Instr := ⟨1, [121], [], [⟨1, [120], 0⟩, ⟨1, [122], 0⟩], [], []⟩
abbrev bA : Api.Block := ⟨[98], [], [i0A, i1A], ⟨3, ⟨1, [121], 0⟩, [], 0⟩⟩
abbrev fA : Api.Func := ⟨[], [], [], [], [bA]⟩
structure AW (w : World) (g0 g g1 g2 : Nat) : Prop where
  b : Mem.Own w g0 42 (bC g)
  i : Mem.Own w g 51 (i0C g1 ++ i1C g2)
  a1 : Mem.Own w g1 38 [i64 2, str [], i64 1]
  a2 : Mem.Own w g2 38 [i64 1, str [120], i64 0, i64 1, str [122], i64 0]
theorem AW.below {w w' : World} {g0 g g1 g2 : Nat} (h : AW w g0 g g1 g2) (hb : Below w.heap.size w w') : AW w' g0 g g1 g2 := ⟨h.b.below hb h.b.lt, h.i.below hb h.i.lt, h.a1.below hb h.a1.lt, h.a2.below hb h.a2.lt⟩
abbrev fC (g0 : Nat) : List Value := [str [], str [], nilS, nilS, .slice (some ⟨g0, 0, none⟩) 1 1]
theorem AW.func {w : World} {g0 g g1 g2 : Nat} (h : AW w g0 g g1 g2) : FuncC 0 w.heap.size w (fC g0) fA := by
  refine ⟨_, _, _, rfl, row_zero12, row_zero12, row_one12 h.b h.b.lt rfl ⟨_, _, _, rfl, row_zero12, row_two12 h.i h.i.lt rfl rfl ?_ ?_, _, rfl, row_zero12⟩⟩
  · exact ⟨_, _, _, rfl, row_one12 h.a1 h.a1.lt rfl rfl, row_zero12, row_zero12⟩
  · exact ⟨_, _, _, rfl, row_two12 (cs := [i64 1, str [120], i64 0]) (ds := [i64 1, str [122], i64 0]) h.a2 h.a2.lt rfl rfl rfl rfl, row_zero12, row_zero12⟩
abbrev UA : List Wd := [[120], [121], [122]]
theorem uokA : UOk UA := ⟨by decide, by decide⟩
theorem oneA : OneB UA fA bA := ⟨rfl, rfl, rfl, by decide, by decide, by decide, by decide⟩
def rA : Nat → List Wd
  | 0 => [[122]]
  | 1 => [[120], [122]]
  | _ => [[121]]
theorem rA_rise : ∀ k, k ≤ 2 → Rise (rA k)
  | 0, _ => ⟨by decide, by decide⟩
  | 1, _ => ⟨by decide, by decide⟩
  | 2, _ => ⟨by decide, by decide⟩
  | _ + 3, h => by omega
theorem rA_mem : ∀ k, k ≤ 2 → ∀ x, backL (bA.code.drop k) (fun y => decide (y ∈ usesT bA.fin)) x = true ↔ x ∈ rA k
  | 0, _, x => by
    simp [backL, backI, usesT, usesI, namesA, namesF, namesO, orS, delS, rA]
    constructor
    · rintro ⟨h1 | h1, h2⟩
      · exact absurd h1 h2
      · exact h1
    · rintro rfl
      exact ⟨.inr rfl, by decide⟩
  | 1, _, x => by
    simp [backL, backI, usesT, usesI, namesA, namesF, namesO, orS, delS, rA]
  | 2, _, x => by
    simp [backL, backI, usesT, usesI, namesA, namesF, namesO, orS, delS, rA]
  | _ + 3, h, _ => by omega
theorem at_c {w : World} {g0 g g1 g2 : Nat} (h : AW w g0 g g1 g2) (k : Nat) (hk : k ≤ 2) :
    Calls Try.prog 13 #[.agg (fC g0).toArray, .int .i64 0, .int .i64 (k : Int)] w fun e w' => ∃ v, e = .returned v ∧ Texts w.heap.size w'.heap.size w' v (rA k) ∧ Below w.heap.size w w' := by
  refine (at1_any uokA 0 _ w (fC g0) fA bA h.func (Nat.le_refl _) oneA k hk).mono ?_
  rintro e w' ⟨v, r, rfl, hr, hm, ho, -, hb⟩
  obtain rfl : r = rA k := rise_eq hr (rA_rise k hk) fun x => (hm x).trans (rA_mem k hk x)
  have hl : ∀ k, k ≤ 2 → (rA k).length ≤ 4611686018427387903 := by decide
  exact ⟨v, rfl, texts_own ho rfl (hl k hk), hb⟩
theorem at_o {w : World} {g0 g g1 g2 : Nat} (h : AW w g0 g g1 g2) : Calls Try.prog 13 #[.agg (fC g0).toArray, .int .i64 0, .int .i64 3] w fun e w' => e = .returned (.slice none 0 0) ∧ Below w.heap.size w w' :=
  at1_out (U := UA) 0 _ w (fC g0) fA bA h.func (Nat.le_refl _) oneA 3 (by decide) (by decide)
theorem own_ne {w : World} {q p : Nat} {t t' : TypeId} {cs ds : List Value} (h : Mem.Own w q t cs) (k : Mem.Own w p t' ds) (ht : t ≠ t') : q ≠ p := by
  rintro rfl
  unfold Mem.Own at h k
  rw [h] at k
  simp at k
  exact ht k.2
def W9 (w : World) (p : Nat) (v0 v1 v2 v3 v4 v5 v6 v7 v8 : Value) : World := ((((((((w.setCell ⟨p, 0, none⟩ v0).setCell ⟨p, 1, none⟩ v1).setCell ⟨p, 2, none⟩ v2).setCell ⟨p, 3, none⟩ v3).setCell ⟨p, 4, none⟩ v4).setCell ⟨p, 5, none⟩ v5).setCell ⟨p, 6, none⟩ v6).setCell ⟨p, 7, none⟩ v7).setCell ⟨p, 8, none⟩ v8
theorem keep1 {w : World} {q p i : Nat} {t : TypeId} {cs : List Value} {v : Value} (h : Mem.Own w q t cs) (hq : q ≠ p) : Mem.Own (w.setCell ⟨p, i, none⟩ v) q t cs := (Below.heap_setCell w ⟨p, i, none⟩ v q hq).trans h
theorem keep9 {w : World} {q p : Nat} {t : TypeId} {cs : List Value} {v0 v1 v2 v3 v4 v5 v6 v7 v8 : Value} (h : Mem.Own w q t cs) (hq : q ≠ p) : Mem.Own (W9 w p v0 v1 v2 v3 v4 v5 v6 v7 v8) q t cs := by
  unfold W9
  exact keep1 (keep1 (keep1 (keep1 (keep1 (keep1 (keep1 (keep1 (keep1 h hq) hq) hq) hq) hq) hq) hq) hq) hq
theorem own9 {w : World} {p : Nat} {t : TypeId} {v0 v1 v2 v3 v4 v5 v6 v7 v8 x0 x1 x2 x3 x4 x5 x6 x7 x8 : Value} (h : Mem.Own w p t [x0, x1, x2, x3, x4, x5, x6, x7, x8]) : Mem.Own (W9 w p v0 v1 v2 v3 v4 v5 v6 v7 v8) p t [v0, v1, v2, v3, v4, v5, v6, v7, v8] := by
  unfold W9
  have h1 : Mem.Own _ p t [v0, x1, x2, x3, x4, x5, x6, x7, x8] := h.store 0 v0
  have h2 : Mem.Own _ p t [v0, v1, x2, x3, x4, x5, x6, x7, x8] := h1.store 1 v1
  have h3 : Mem.Own _ p t [v0, v1, v2, x3, x4, x5, x6, x7, x8] := h2.store 2 v2
  have h4 : Mem.Own _ p t [v0, v1, v2, v3, x4, x5, x6, x7, x8] := h3.store 3 v3
  have h5 : Mem.Own _ p t [v0, v1, v2, v3, v4, x5, x6, x7, x8] := h4.store 4 v4
  have h6 : Mem.Own _ p t [v0, v1, v2, v3, v4, v5, x6, x7, x8] := h5.store 5 v5
  have h7 : Mem.Own _ p t [v0, v1, v2, v3, v4, v5, v6, x7, x8] := h6.store 6 v6
  have h8 : Mem.Own _ p t [v0, v1, v2, v3, v4, v5, v6, v7, x8] := h7.store 7 v7
  have h9 : Mem.Own _ p t [v0, v1, v2, v3, v4, v5, v6, v7, v8] := h8.store 8 v8
  exact h9
theorem nine {l : List Value} (h : l.length = 9) : ∃ x0 x1 x2 x3 x4 x5 x6 x7 x8, l = [x0, x1, x2, x3, x4, x5, x6, x7, x8] := by
  obtain ⟨x0, l, rfl⟩ : ∃ x l2, l = x :: l2 := by cases l <;> simp at h ⊢
  obtain ⟨x1, l, rfl⟩ : ∃ x l2, l = x :: l2 := by cases l <;> simp at h ⊢
  obtain ⟨x2, l, rfl⟩ : ∃ x l2, l = x :: l2 := by cases l <;> simp at h ⊢
  obtain ⟨x3, l, rfl⟩ : ∃ x l2, l = x :: l2 := by cases l <;> simp at h ⊢
  obtain ⟨x4, l, rfl⟩ : ∃ x l2, l = x :: l2 := by cases l <;> simp at h ⊢
  obtain ⟨x5, l, rfl⟩ : ∃ x l2, l = x :: l2 := by cases l <;> simp at h ⊢
  obtain ⟨x6, l, rfl⟩ : ∃ x l2, l = x :: l2 := by cases l <;> simp at h ⊢
  obtain ⟨x7, l, rfl⟩ : ∃ x l2, l = x :: l2 := by cases l <;> simp at h ⊢
  obtain ⟨x8, l, rfl⟩ : ∃ x l2, l = x :: l2 := by cases l <;> simp at h ⊢
  obtain rfl : l = [] := by simpa using h
  exact ⟨x0, x1, x2, x3, x4, x5, x6, x7, x8, rfl⟩
theorem below9 {w : World} {B p : Nat} {v0 v1 v2 v3 v4 v5 v6 v7 v8 : Value} (h : B ≤ p) : Below B w (W9 w p v0 v1 v2 v3 v4 v5 v6 v7 v8) := by
  unfold W9
  exact (((((((((Below.refl B w).setCell h v0).setCell h v1).setCell h v2).setCell h v3).setCell h v4).setCell h v5).setCell h v6).setCell h v7).setCell h v8
section
variable {b0 p : Nat} {w w' : World} {xs vs : List Value} (o : Mem.Own w p 42 xs) (o' : Mem.Own w' p 42 vs) (hv : vs.length = 9) (kp : ∀ (q : Nat) (t : TypeId) (cs : List Value), Mem.Own w q t cs → q ≠ p → Mem.Own w' q t cs)
include o kp
theorem A1.set {g : Nat} (h : A1 b0 w g) : A1 b0 w' g := ⟨kp _ _ _ h.1 (own_ne h.1 o (by decide)), h.2⟩
theorem A2.set {g : Nat} (h : A2 b0 w g) : A2 b0 w' g := ⟨kp _ _ _ h.1 (own_ne h.1 o (by decide)), h.2⟩
theorem A3.set {g : Nat} (h : A3 b0 w g) : A3 b0 w' g := by
  obtain ⟨g1, g2, h1, h2, h3, h4⟩ := h
  exact ⟨g1, g2, kp _ _ _ h1 (own_ne h1 o (by decide)), h2.set o kp, h3.set o kp, h4⟩
include o' hv
set_option maxHeartbeats 2000000 in
theorem fact2_set (j : Nat) (hj : j < 12) (v : Value) (h : fact2 b0 j v w) : fact2 b0 j v w' := by
  have e : j = 0 ∨ j = 1 ∨ j = 2 ∨ j = 3 ∨ j = 4 ∨ j = 5 ∨ j = 6 ∨ j = 7 ∨ j = 8 ∨ j = 9 ∨ j = 10 ∨ j = 11 := by omega
  rcases e with rfl | rfl | rfl | rfl | rfl | rfl | rfl | rfl | rfl | rfl | rfl | rfl
  · exact h
  · obtain ⟨g, h, k⟩ := h
    exact ⟨g, h, k.set o kp⟩
  · obtain ⟨g, h, k⟩ := h
    exact ⟨g, h, k.set o kp⟩
  · exact h
  · exact h
  · obtain ⟨g, h, k⟩ := h
    exact ⟨g, h, k.set o kp⟩
  · obtain ⟨g, h, k⟩ := h
    exact ⟨g, h, k.set o kp⟩
  · obtain ⟨g, h, k⟩ := h
    exact ⟨g, h, k.set o kp⟩
  · exact h
  · exact h
  · obtain ⟨g, h, k⟩ := h
    exact ⟨g, h, k.set o kp⟩
  · obtain ⟨q, ds, h, k, l, m⟩ := h
    by_cases e : q = p
    · subst e
      exact ⟨q, _, h, o', hv, m⟩
    · exact ⟨q, ds, h, kp _ _ _ k e, l, m⟩
end
theorem fin2 {w w2 w' : World} {F : Nat → Value} {K : Go.Act → World → Prop} {j : Nat} {v : Value} {fr : Go.Act} (hj : j < 12) (hB : Bs2 w F w2)
    (hK : ∀ v w' fr, fr = mkA (Facts.upd F (dst2 j) v) → Bs2 w (Facts.upd F (dst2 j) v) w' → (∀ e, e < 13 → e ≠ j → j ∉ deps2 e → ∀ u, fact2 w.heap.size e u w2 → fact2 w.heap.size e u w') → fact2 w.heap.size j v w' → (∀ e, e < 13 → e ≠ j → j ∉ deps2 e → Facts.upd F (dst2 j) v (dst2 e) = F (dst2 e)) → K fr w')
    (hb : Below w2.heap.size w2 w') (hfr : fr = mkA (Facts.upd F (dst2 j) v)) (hf : fact2 w.heap.size j v w') : K fr w' := by
  obtain ⟨b0, b1, b2, b3⟩ := hB
  have hdj : ∀ j, j < 12 → dst2 j ≠ 0 ∧ dst2 j ≠ 1 := by decide
  have hde : ∀ j, j < 12 → ∀ e, e < 13 → e ≠ j → j ∉ deps2 e → dst2 e ≠ dst2 j := by decide
  refine hK v w' fr hfr ⟨?_, ?_, b2.below hb b2.lt, b3.trans (hb.mono b3.size)⟩ (fun e he hej hd u => fact2_mono hb e u) hf fun e he hej hd => ?_
  · unfold Facts.upd
    rw [if_neg (Ne.symm (hdj j hj).1), b0]
  · unfold Facts.upd
    rw [if_neg (Ne.symm (hdj j hj).2), b1]
  · unfold Facts.upd
    rw [if_neg (hde j hj e he hej hd)]
end Go.Proofs.Ytaeklfljibjpiaa.L12
