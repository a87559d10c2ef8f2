/-
  What the laws of layer 5 share: awake.
-/
import Derived.Test.YtkfpcaganhmkcaaDoorAwake5
namespace Go.Proofs.YtkfpcaganhmkcaaDoor.Rd5
open Go.RowKit Api Syn WordM Mem

variable {w w' w1 w2 : World} {lo hi : Nat}
theorem row_nil {α : Type} {size : Nat} {P : List Value → α → Prop} {v : Value} (h : Row lo hi w size P v ([] : List α)) : ∃ A cap, v = .slice A 0 cap := by
  obtain ⟨A, n, cap, b, off, rfl, hn, _⟩ := h
  subst hn
  exact ⟨A, cap, rfl⟩
theorem row_form {α : Type} {size : Nat} {P : List Value → α → Prop} {v : Value} {xs : List α} (h : Row lo hi w size P v xs) : ∃ A cap, v = .slice A xs.length cap := by
  obtain ⟨A, n, cap, b, off, rfl, hn, _⟩ := h
  subst hn
  exact ⟨A, cap, rfl⟩
theorem row_one {α : Type} {size : Nat} {P : List Value → α → Prop} {v : Value} {x : α} (h : Row lo hi w size P v [x]) :
    ∃ b off cap cs, v = .slice (some ⟨b, off, none⟩) 1 cap ∧ b < hi ∧ (∀ j u, cs[j]? = some u → w.cell? ⟨b, off + j, none⟩ = some u) ∧ P cs x := by
  obtain ⟨A, n, cap, b, off, rfl, hn, _, ha, hc⟩ := h
  obtain ⟨rfl, _, hb⟩ := ha (by simp at hn; omega)
  obtain ⟨cs, _, h1, h2⟩ := hc 0 x rfl
  refine ⟨b, off, cap, cs, by rw [hn]; rfl, hb, fun j u hj => ?_, h2⟩
  have := h1 j u hj
  simpa using this
theorem awake_open {cs : List Value} (h : ProgC lo hi w cs awakeP) :
    ∃ A1 k1 A2 k2 A3 k3 b1 o1 c1 b2 o2 c2 b3 o3 c3 P1 p1 P2 p2, cs = [.bool false, .slice A1 0 k1, .slice A2 0 k2, .slice A3 0 k3, .slice (some ⟨b1, o1, none⟩) 1 c1] ∧
      ∀ w', Below hi w w' → w'.cell? ⟨b1, o1 + 4, none⟩ = some (.slice (some ⟨b2, o2, none⟩) 1 c2) ∧
        w'.cell? ⟨b2, o2, none⟩ = some (str [98]) ∧ w'.cell? ⟨b2, o2 + 1, none⟩ = some (.slice P1 0 p1) ∧ w'.cell? ⟨b2, o2 + 2, none⟩ = some (.slice (some ⟨b3, o3, none⟩) 1 c3) ∧ w'.cell? ⟨b2, o2 + 3, none⟩ = some (i64 3) ∧ w'.cell? ⟨b2, o2 + 4, none⟩ = some (i64 1) ∧ w'.cell? ⟨b2, o2 + 5, none⟩ = some (str [120]) ∧ w'.cell? ⟨b2, o2 + 6, none⟩ = some (i64 0) ∧ w'.cell? ⟨b2, o2 + 7, none⟩ = some (.slice P2 0 p2) ∧ w'.cell? ⟨b2, o2 + 8, none⟩ = some (i64 0) ∧
        w'.cell? ⟨b3, o3, none⟩ = some (i64 1) ∧ w'.cell? ⟨b3, o3 + 1, none⟩ = some (str [120]) := by
  obtain ⟨u1, u2, u3, u4, rfl, h1, h2, h3, h4⟩ := h
  obtain ⟨A1, k1, rfl⟩ := row_nil h1
  obtain ⟨A2, k2, rfl⟩ := row_nil h2
  obtain ⟨A3, k3, rfl⟩ := row_nil h3
  obtain ⟨b1, o1, c1, s1, rfl, g1, e1, v1, v2, v3, rfl, _, _, h5⟩ := row_one h4
  obtain ⟨b2, o2, c2, s2, rfl, g2, e2, y1, y2, y3, rfl, h6, h7, y4, rfl, h8⟩ := row_one h5
  obtain ⟨P1, p1, rfl⟩ := row_nil h6
  obtain ⟨P2, p2, rfl⟩ := row_nil h8
  obtain ⟨b3, o3, c3, s3, rfl, g3, e3, z1, z2, z3, rfl, _, _, _⟩ := row_one h7
  refine ⟨A1, k1, A2, k2, A3, k3, b1, o1, c1, b2, o2, c2, b3, o3, c3, P1, p1, P2, p2, rfl, fun w' hb => ?_⟩
  have f1 : ∀ j u, _ → w'.cell? ⟨b1, o1 + j, none⟩ = some u := fun j u hj => (hb.cell (p := ⟨b1, o1 + j, none⟩) g1).trans (e1 j u hj)
  have f2 : ∀ j u, _ → w'.cell? ⟨b2, o2 + j, none⟩ = some u := fun j u hj => (hb.cell (p := ⟨b2, o2 + j, none⟩) g2).trans (e2 j u hj)
  have f3 : ∀ j u, _ → w'.cell? ⟨b3, o3 + j, none⟩ = some u := fun j u hj => (hb.cell (p := ⟨b3, o3 + j, none⟩) g3).trans (e3 j u hj)
  exact ⟨f1 4 _ rfl, f2 0 _ rfl, f2 1 _ rfl, f2 2 _ rfl, f2 3 _ rfl, f2 4 _ rfl, f2 5 _ rfl, f2 6 _ rfl, f2 7 _ rfl, f2 8 _ rfl, f3 0 _ rfl, f3 1 _ rfl⟩
theorem parsP_err {e : Ending} {r : Except (Nat × Int) Prog} {x : Nat × Int} (h : ParsP w r e w') (hr : r = .error x) : e = .returned (.tuple #[.agg #[.bool false, .slice none 0 0, .slice none 0 0, .slice none 0 0, .slice none 0 0], i64 (x.1 : Int), i64 x.2]) ∧ Below w.heap.size w w' := by
  subst hr; exact ⟨h.2, h.1⟩
theorem parsP_ok {e : Ending} {r : Except (Nat × Int) Prog} {p : Prog} (h : ParsP w r e w') (hr : r = .ok p) : ∃ cs, e = .returned (.tuple #[.agg cs.toArray, i64 0, i64 0]) ∧ ProgC w.heap.size w'.heap.size w' cs p ∧ Below w.heap.size w w' := by
  subst hr; obtain ⟨h1, cs, h2, h3⟩ := h; exact ⟨cs, h2, h3, h1⟩
set_option maxRecDepth 100000 in
set_option maxHeartbeats 8000000 in
theorem awake_any (w : World) (hL : LaidS w) : Calls Tryd.prog 14 #[] w fun e w' => e = .returned (.bool true) ∧ Below w.heap.size w w' := by
  have Q1 := Lib.hid fun w (h : LaidS w) => pars_any ⟨#[102, 117, 110, 99, 32, 102, 32, 105, 110, 116, 10, 98, 108, 111, 99, 107, 32, 98, 10, 120, 32, 61, 32, 97, 100, 100, 32, 49, 32, 121, 10, 114, 101, 116, 32, 120, 10]⟩ w (by unfold maxLen; decide) h
  have Q2 := Lib.hid fun w (h : LaidS w) => pars_any ⟨#[120, 32, 61, 32, 97, 100, 100, 32, 49, 32, 50]⟩ w (by unfold maxLen; decide) h
  have Q3 := Lib.hid fun w (h : LaidS w) => pars_any ⟨#[102, 117, 110, 99, 32, 102, 32, 105, 110, 116, 10]⟩ w (by unfold maxLen; decide) h
  have HL := Lib.hid hL
  clear hL
  go_enter Tryd.func14, Tryd.ntmps14
  go_wp2_with fail
  refine (Q1.out _ HL.out).mono ?_
  intro e w1 hP
  obtain ⟨cs, rfl, hp, hb1⟩ := parsP_ok hP awake_1
  obtain ⟨A1, k1, A2, k2, A3, k3, b1, o1, c1, b2, o2, c2, b3, o3, c3, P1, p1, P2, p2, rfl, hcell⟩ := awake_open hp
  have HC := Lib.hid hcell
  have HB1 := Lib.hid hb1
  have HL1 := Lib.hid (HL.out.below hb1 (Nat.le_refl _))
  clear hP hp hb1 hcell
  go_wp2_with fail
  refine (Q2.out _ (HL1.out.below ((Below.refl _ _).alloc (Nat.le_refl _) _) (Nat.le_refl _))).mono ?_
  intro e w2 hP
  obtain ⟨rfl, hb2⟩ := parsP_err hP awake_2
  have HZ := Lib.hid ((Own.made w1 38 [.bool false, .slice A1 0 k1, .slice A2 0 k2, .slice A3 0 k3, .slice (some ⟨b1, o1, none⟩) 1 c1]).below hb2 (by simp))
  have HB2 := Lib.hid (((Below.refl w1.heap.size w1).alloc (Nat.le_refl _) (.cells #[.bool false, .slice A1 0 k1, .slice A2 0 k2, .slice A3 0 k3, .slice (some ⟨b1, o1, none⟩) 1 c1] 38)).trans (hb2.mono (by simp)))
  have HS2 : Hid (w1.heap.size < w2.heap.size) := Lib.hid (z_size hb2)
  clear hP hb2
  go_wp2_with fail
  refine (Q3.out _ ((HL1.out.below HB2.out (Nat.le_refl _)).below ((Below.refl _ _).alloc (Nat.le_refl _) _) (Nat.le_refl _))).mono ?_
  intro e w3 hP
  obtain ⟨rfl, hb3⟩ := parsP_err hP awake_3
  have hZ3 := HZ.out.below ((((Below.refl w2.heap.size w2).alloc (Nat.le_refl _) (.cells #[.bool false, .slice none 0 0, .slice none 0 0, .slice none 0 0, .slice none 0 0] 38)).trans (hb3.mono (by simp)))) HS2.out
  have HB3 := Lib.hid (((Below.refl w2.heap.size w2).alloc (Nat.le_refl _) (.cells #[.bool false, .slice none 0 0, .slice none 0 0, .slice none 0 0, .slice none 0 0] 38)).trans (hb3.mono (by simp)))
  obtain ⟨⟨d0, d1, d2, d3, d4⟩, z0, z1, z2, z3, z4⟩ := res_cells hZ3
  obtain ⟨x1, y0, y1, y2, y3, y4, y5, y6, y7, y8, t0, t1⟩ := HC.out w3 (HB2.out.trans (HB3.out.mono (Nat.le_of_lt HS2.out)))
  have HF := Lib.hid (((Below.refl w.heap.size w).trans HB1.out).trans ((HB2.out.mono HB1.out.size).trans (HB3.out.mono (Nat.le_trans HB1.out.size (Nat.le_of_lt HS2.out)))))
  have l0 : w1.heap.size < w3.heap.size := World.block_lt_of_cell? w3 _ d0
  have l1 : b1 < w3.heap.size := World.block_lt_of_cell? w3 _ x1
  have l2 : b2 < w3.heap.size := World.block_lt_of_cell? w3 _ y0
  have l3 : b3 < w3.heap.size := World.block_lt_of_cell? w3 _ t0
  have dd4 := al_cell (x := .cells #[.bool false, .slice none 0 0, .slice none 0 0, .slice none 0 0, .slice none 0 0] 38) d4
  have xx1 := al_cell (x := .cells #[.bool false, .slice none 0 0, .slice none 0 0, .slice none 0 0, .slice none 0 0] 38) x1
  have yy0 := al_cell (x := .cells #[.bool false, .slice none 0 0, .slice none 0 0, .slice none 0 0, .slice none 0 0] 38) y0
  have yy1 := al_cell (x := .cells #[.bool false, .slice none 0 0, .slice none 0 0, .slice none 0 0, .slice none 0 0] 38) y1
  have yy2 := al_cell (x := .cells #[.bool false, .slice none 0 0, .slice none 0 0, .slice none 0 0, .slice none 0 0] 38) y2
  have yy3 := al_cell (x := .cells #[.bool false, .slice none 0 0, .slice none 0 0, .slice none 0 0, .slice none 0 0] 38) y3
  have yy4 := al_cell (x := .cells #[.bool false, .slice none 0 0, .slice none 0 0, .slice none 0 0, .slice none 0 0] 38) y4
  have yy5 := al_cell (x := .cells #[.bool false, .slice none 0 0, .slice none 0 0, .slice none 0 0, .slice none 0 0] 38) y5
  have yy6 := al_cell (x := .cells #[.bool false, .slice none 0 0, .slice none 0 0, .slice none 0 0, .slice none 0 0] 38) y6
  have yy7 := al_cell (x := .cells #[.bool false, .slice none 0 0, .slice none 0 0, .slice none 0 0, .slice none 0 0] 38) y7
  have yy8 := al_cell (x := .cells #[.bool false, .slice none 0 0, .slice none 0 0, .slice none 0 0, .slice none 0 0] 38) y8
  have tt0 := al_cell (x := .cells #[str [98], .slice P1 0 p1, .slice (some ⟨b3, o3, none⟩) 1 c3, i64 3, i64 1, str [120], i64 0, .slice P2 0 p2, i64 0] 54) (al_cell (x := .cells #[.bool false, .slice none 0 0, .slice none 0 0, .slice none 0 0, .slice none 0 0] 38) t0)
  have tt1 := al_cell (x := .cells #[str [98], .slice P1 0 p1, .slice (some ⟨b3, o3, none⟩) 1 c3, i64 3, i64 1, str [120], i64 0, .slice P2 0 p2, i64 0] 54) (al_cell (x := .cells #[.bool false, .slice none 0 0, .slice none 0 0, .slice none 0 0, .slice none 0 0] 38) t1)
  clear hP hb3 hZ3
  go_wp2_with fail
  go_ret
  exact ⟨rfl, (HF.out.alloc HF.out.size _).alloc (by have := HF.out.size; simp; omega) _⟩
end Go.Proofs.YtkfpcaganhmkcaaDoor.Rd5
