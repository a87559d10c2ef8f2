/-
  The statements' right: has an instruction what its form asks for?
-/
import Derived.Test.YtkfpcaganhmkcaaDoorOfs
import Derived.Test.YtkfpcaganhmkcaaDoorLaw05
namespace Go.Proofs.YtkfpcaganhmkcaaDoor.Rd5
open Go.RowKit Api Syn WordM Mem

variable {lo hi : Nat} {w : World}
theorem boxed1 {w W : World} {t : TypeId} {c : List Value} (h : w.alloc (.cells c.toArray t) = W) : Own W w.heap.size t c ∧ Below w.heap.size w W ∧ W.heap.size = w.heap.size + 1 := by
  subst h
  exact ⟨Own.made w t c, (Below.refl _ _).alloc (Nat.le_refl _) _, by simp⟩
theorem own_hold {g B : Nat} {t : TypeId} {cs : List Value} {w' : World} (o : Own w g t cs) (hb : Below B w w') (hg : g < B) (i : Nat) {u : Value} (h : cs[i]? = some u) : w'.cell? ⟨g, i, none⟩ = some u := ((o.below hb hg).cell i).trans h
theorem none_str {x : Wd} {s : ByteArray} (hs : s.data.toList = x) (b : Bool) (h : noneR x b = true) : (s.toList != []) = b := by
  have e : s.toList = x := by rw [ByteArray.toList_eq, hs]
  rw [e]
  unfold noneR at h
  split at h
  · rename_i hb
    rw [hb]
    cases x with
    | nil => revert h; decide
    | cons a l => rfl
  · rename_i hb
    simp only [beq_iff_eq] at h
    subst h
    simp at hb
    rw [hb]; rfl
theorem textE_errs {s : List UInt8} {x : Nat × Int} (h : textE s = .error x) : x.2 ≠ 0 := by
  unfold textE at h
  split at h
  · rename_i hy
    injection h with h
    subst h
    simp only
    omega
  · have := parseE_errs h
    omega
theorem isEmpty_of (l : List UInt8) : (!l.isEmpty) = (l != []) := by cases l <;> rfl
set_option maxRecDepth 100000 in
set_option maxHeartbeats 8000000 in
theorem right_any (cs : List Value) (x : Instr) (hx : InstrC lo hi w cs x) (hR : instrR x = true) (hL : LaidS w) :
    Calls Tryd.prog 17 #[.agg cs.toArray] w fun e w' => e = .returned (.bool true) ∧ Below w.heap.size w w' := by
  obtain ⟨u1, u2, u3, rfl, ha, hf, ho⟩ := hx
  obtain ⟨op, dst, name, args, frames, objs⟩ := x
  simp only at ha hf ho ⊢
  obtain ⟨A1, c1, rfl⟩ := row_form ha
  obtain ⟨A2, c2, rfl⟩ := row_form hf
  obtain ⟨A3, c3, rfl⟩ := row_form ho
  simp only [instrR, Bool.and_eq_true, decide_eq_true_eq] at hR
  obtain ⟨h1, h2, h3, h4, ⟨h5, _⟩, h6⟩ := hR
  obtain ⟨⟨⟨fw, d, m, l, k⟩, b⟩, hfo⟩ : ∃ r, formV op = r := ⟨_, rfl⟩
  obtain ⟨z, hz⟩ : ∃ z : ByteArray, z.data.toList = fw := ⟨⟨fw.toArray⟩, rfl⟩
  rw [← hz] at hfo
  rw [hfo] at h1 h2 h3 h4 h5
  simp only at h1 h2 h3 h4 h5
  subst h1
  obtain ⟨sd, hsd⟩ : ∃ s : ByteArray, s = ⟨dst.toArray⟩ := ⟨_, rfl⟩
  obtain ⟨sn, hsn⟩ : ∃ s : ByteArray, s = ⟨name.toArray⟩ := ⟨_, rfl⟩
  have e1 : ((!sd.toList.isEmpty) == d) = true := by rw [isEmpty_of, none_str (s := sd) (by rw [hsd]) d h2]; simp
  have e2 : ((!sn.toList.isEmpty) == m) = true := by rw [isEmpty_of, none_str (s := sn) (by rw [hsn]) m h3]; simp
  rw [show (str dst : Value) = .string sd by rw [hsd], show (str name : Value) = .string sn by rw [hsn]]
  have e3 : decide ((args.length : Int) < l) = false := decide_eq_false (by omega)
  have e4 : decide (k < (args.length : Int)) = false := decide_eq_false (by omega)
  have e5 : (d != d) = false := by simp
  have e6 : (m != m) = false := by simp
  obtain ⟨W, hW⟩ : ∃ W, w.alloc (.cells #[i64 op, .string sd, .string sn, .slice A1 args.length c1, .slice A2 frames.length c2, .slice A3 objs.length c3] 60) = W := ⟨_, rfl⟩
  obtain ⟨o1, hb0, hz0⟩ := boxed1 (c := [i64 op, .string sd, .string sn, .slice A1 args.length c1, .slice A2 frames.length c2, .slice A3 objs.length c3]) hW
  have O1 := Lib.hid o1
  have HB0 := Lib.hid hb0
  have HZ0 := Lib.hid hz0
  have HW := Lib.hid hW
  have Q1 := Lib.hid (of_as op z d m l k true hfo W (hL.below hb0 (Nat.le_refl _)))
  unfold stateR at h6
  simp only at h6
  have TAIL : True := trivial
  clear hfo hz hL hsd hsn h2 h3 h4 h5 ha hf ho hb0 hz0 hW o1
  have key : (frames.length = 0 ∧ objs.length = 0 ∧ (op == 31) = false ∧ (op == 34) = false) ∨ (op == 31) = true ∨ ((op == 31) = false ∧ (op == 34) = true) := by
    by_cases h31 : op = 31
    · exact .inr (.inl (by simp [h31]))
    · by_cases h34 : op = 34
      · exact .inr (.inr ⟨by simp [h31], by simp [h34]⟩)
      · rw [if_pos ⟨h31, h34⟩] at h6
        simp only [Bool.and_eq_true, decide_eq_true_eq] at h6
        exact .inl ⟨h6.1, h6.2, by simp [h31], by simp [h34]⟩
  clear h6 TAIL
  rcases key with ⟨k1, k2, e7, e8⟩ | e7 | ⟨e7, e8⟩
  · rw [k1, k2] at HW O1 ⊢
    clear k1 k2
    go_enter Tryd.func17, Tryd.ntmps17
    go_wp2_with fail
    rw [HW.out]
    refine (Q1.out).mono ?_; rintro e w1 ⟨rfl, hb1⟩
    have HB1 := Lib.hid hb1
    have g0 := al_cell (x := .cells #[.string z, .bool d, .bool m, .int .i64 l, .int .i64 k] 23) (own_hold O1.out hb1 (by rw [HZ0.out]; omega) 0 rfl)
    have g1 := al_cell (x := .cells #[.string z, .bool d, .bool m, .int .i64 l, .int .i64 k] 23) (own_hold O1.out hb1 (by rw [HZ0.out]; omega) 1 rfl)
    have g2 := al_cell (x := .cells #[.string z, .bool d, .bool m, .int .i64 l, .int .i64 k] 23) (own_hold O1.out hb1 (by rw [HZ0.out]; omega) 2 rfl)
    have g3 := al_cell (x := .cells #[.string z, .bool d, .bool m, .int .i64 l, .int .i64 k] 23) (own_hold O1.out hb1 (by rw [HZ0.out]; omega) 3 rfl)
    have g4 := al_cell (x := .cells #[.string z, .bool d, .bool m, .int .i64 l, .int .i64 k] 23) (own_hold O1.out hb1 (by rw [HZ0.out]; omega) 4 rfl)
    have g5 := al_cell (x := .cells #[.string z, .bool d, .bool m, .int .i64 l, .int .i64 k] 23) (own_hold O1.out hb1 (by rw [HZ0.out]; omega) 5 rfl)
    have l0 : w.heap.size < w1.heap.size := by have := hb1.size; rw [HZ0.out] at this; omega
    clear hb1
    go_wp2_with fail
    go_ret
    exact ⟨rfl, HB0.out.trans ((HB1.out.mono HB0.out.size).alloc (by have := HB1.out.size; omega) _)⟩
  · go_enter Tryd.func17, Tryd.ntmps17
    go_wp2_with fail
    rw [HW.out]
    refine (Q1.out).mono ?_; rintro e w1 ⟨rfl, hb1⟩
    have HB1 := Lib.hid hb1
    have g0 := al_cell (x := .cells #[.string z, .bool d, .bool m, .int .i64 l, .int .i64 k] 23) (own_hold O1.out hb1 (by rw [HZ0.out]; omega) 0 rfl)
    have g1 := al_cell (x := .cells #[.string z, .bool d, .bool m, .int .i64 l, .int .i64 k] 23) (own_hold O1.out hb1 (by rw [HZ0.out]; omega) 1 rfl)
    have g2 := al_cell (x := .cells #[.string z, .bool d, .bool m, .int .i64 l, .int .i64 k] 23) (own_hold O1.out hb1 (by rw [HZ0.out]; omega) 2 rfl)
    have g3 := al_cell (x := .cells #[.string z, .bool d, .bool m, .int .i64 l, .int .i64 k] 23) (own_hold O1.out hb1 (by rw [HZ0.out]; omega) 3 rfl)
    have g4 := al_cell (x := .cells #[.string z, .bool d, .bool m, .int .i64 l, .int .i64 k] 23) (own_hold O1.out hb1 (by rw [HZ0.out]; omega) 4 rfl)
    have g5 := al_cell (x := .cells #[.string z, .bool d, .bool m, .int .i64 l, .int .i64 k] 23) (own_hold O1.out hb1 (by rw [HZ0.out]; omega) 5 rfl)
    have l0 : w.heap.size < w1.heap.size := by have := hb1.size; rw [HZ0.out] at this; omega
    clear hb1
    go_wp2_with fail
    go_ret
    exact ⟨rfl, HB0.out.trans ((HB1.out.mono HB0.out.size).alloc (by have := HB1.out.size; omega) _)⟩
  · go_enter Tryd.func17, Tryd.ntmps17
    go_wp2_with fail
    rw [HW.out]
    refine (Q1.out).mono ?_; rintro e w1 ⟨rfl, hb1⟩
    have HB1 := Lib.hid hb1
    have g0 := al_cell (x := .cells #[.string z, .bool d, .bool m, .int .i64 l, .int .i64 k] 23) (own_hold O1.out hb1 (by rw [HZ0.out]; omega) 0 rfl)
    have g1 := al_cell (x := .cells #[.string z, .bool d, .bool m, .int .i64 l, .int .i64 k] 23) (own_hold O1.out hb1 (by rw [HZ0.out]; omega) 1 rfl)
    have g2 := al_cell (x := .cells #[.string z, .bool d, .bool m, .int .i64 l, .int .i64 k] 23) (own_hold O1.out hb1 (by rw [HZ0.out]; omega) 2 rfl)
    have g3 := al_cell (x := .cells #[.string z, .bool d, .bool m, .int .i64 l, .int .i64 k] 23) (own_hold O1.out hb1 (by rw [HZ0.out]; omega) 3 rfl)
    have g4 := al_cell (x := .cells #[.string z, .bool d, .bool m, .int .i64 l, .int .i64 k] 23) (own_hold O1.out hb1 (by rw [HZ0.out]; omega) 4 rfl)
    have g5 := al_cell (x := .cells #[.string z, .bool d, .bool m, .int .i64 l, .int .i64 k] 23) (own_hold O1.out hb1 (by rw [HZ0.out]; omega) 5 rfl)
    have l0 : w.heap.size < w1.heap.size := by have := hb1.size; rw [HZ0.out] at this; omega
    clear hb1
    go_wp2_with fail
    go_ret
    exact ⟨rfl, HB0.out.trans ((HB1.out.mono HB0.out.size).alloc (by have := HB1.out.size; omega) _)⟩
end Go.Proofs.YtkfpcaganhmkcaaDoor.Rd5
