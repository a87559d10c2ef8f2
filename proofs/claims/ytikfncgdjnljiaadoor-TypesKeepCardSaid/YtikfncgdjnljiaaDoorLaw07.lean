/-
  The statements of layer 7: what they share.
-/
import Derived.Test.YtikfncgdjnljiaaDoorEx7
import Derived.Test.YtikfncgdjnljiaaDoorTyEnd
import Derived.Test.YtikfncgdjnljiaaDoorTyInstr
import Derived.Test.YtikfncgdjnljiaaDoorTySuits
import Derived.Test.YtikfncgdjnljiaaDoorTyHead
import Derived.Deep.RegionLaw
import Derived.Deep.DeepCutAuto
namespace Go.Proofs.YtikfncgdjnljiaaDoor.L07
open Go.RowKit Api Syn WordM Mem Ty7

theorem results_cell7 {fn : Func} {p : Tmp} {ty : TypeId} (h : fn.results = #[.cell p ty]) (tmps : Array Value) (P : Program) (w : World) :
    (results fn tmps).run P w = ((asAddr (tmps.getD p undef)).run P w).andThen fun a w₁ => (loadVar ty a).run P w₁ := by
  simp only [results, h]
  simp [Sem.run_bind, Result.andThen]
set_option maxRecDepth 100000 in
set_option maxHeartbeats 2000000 in
theorem arg_any7 (w : World) (s : Wd) : Calls Tryd.prog 33 #[str s] w fun e w' => e = .returned (.agg #[i64 1, str s, i64 0]) ∧ Below w.heap.size w w' := by
  have HO := Lib.hid (Mem.Own.made w 32 [i64 1, str s, i64 0])
  go_enter Tryd.func33, Tryd.ntmps33
  go_wp2_with fail
  have n0 := HO.out.cell 0
  have n1 := HO.out.cell 1
  have n2 := HO.out.cell 2
  simp only [List.getElem?_cons_zero, List.getElem?_cons_succ] at n0 n1 n2
  refine bodyPost_ret (v := .agg #[i64 1, str s, i64 0]) (by rw [results_cell7 rfl]; go_simp) rfl ⟨rfl, (Below.refl _ w).alloc (Nat.le_refl _) _⟩
theorem two7a {hi : Nat} {w : World} {g : Nat} (o : Own w g 32 [i64 2, str [], i64 1, i64 1, str [121], i64 0]) (hg : g < hi) : Args 0 hi w (.slice (some ⟨g, 0, none⟩) 2 2) [⟨2, [], 1⟩, ⟨1, [121], 0⟩] := by
  refine ⟨_, 2, 2, g, 0, rfl, rfl, ⟨by omega, by omega⟩, fun _ => ⟨rfl, Nat.zero_le _, hg⟩, fun i z hz => ?_⟩
  match i, hz with
  | 0, hz =>
    obtain rfl : (⟨2, [], 1⟩ : Api.Arg) = z := by simpa using hz
    refine ⟨[i64 2, str [], i64 1], rfl, fun j u hj => ?_, rfl⟩
    rw [show 0 + 0 * 3 + j = j by omega, o.cell]
    match j, hj with
    | 0, hj => exact hj
    | 1, hj => exact hj
    | 2, hj => exact hj
    | j + 3, hj => simp at hj
  | 1, hz =>
    obtain rfl : (⟨1, [121], 0⟩ : Api.Arg) = z := by simpa using hz
    refine ⟨[i64 1, str [121], i64 0], rfl, fun j u hj => ?_, rfl⟩
    rw [o.cell]
    match j, hj with
    | 0, hj => exact hj
    | 1, hj => exact hj
    | 2, hj => exact hj
    | j + 3, hj => simp at hj
  | i + 2, hz => simp at hz
/-- six cells written into a box, beside a row. -/
def W6 (w : World) (p : Nat) (v0 v1 v2 v3 v4 v5 : Value) : World := (((((w.setCell ⟨p, 0, none⟩ v0).setCell ⟨p, 1, none⟩ v1).setCell ⟨p, 2, none⟩ v2).setCell ⟨p, 3, none⟩ v3).setCell ⟨p, 4, none⟩ v4).setCell ⟨p, 5, none⟩ v5
theorem own6 {w : World} {p : Nat} {t : TypeId} {v0 v1 v2 v3 v4 v5 x0 x1 x2 x3 x4 x5 : Value} (h : Own w p t [x0, x1, x2, x3, x4, x5]) : Own (W6 w p v0 v1 v2 v3 v4 v5) p t [v0, v1, v2, v3, v4, v5] := by
  unfold W6
  have h1 : Own _ p t [v0, x1, x2, x3, x4, x5] := h.store 0 v0
  have h2 : Own _ p t [v0, v1, x2, x3, x4, x5] := h1.store 1 v1
  have h3 : Own _ p t [v0, v1, v2, x3, x4, x5] := h2.store 2 v2
  have h4 : Own _ p t [v0, v1, v2, v3, x4, x5] := h3.store 3 v3
  have h5 : Own _ p t [v0, v1, v2, v3, v4, x5] := h4.store 4 v4
  exact h5.store 5 v5
theorem keep6 {w : World} {q p : Nat} {t : TypeId} {cs : List Value} {v0 v1 v2 v3 v4 v5 : Value} (h : Own w q t cs) (hq : q ≠ p) : Own (W6 w p v0 v1 v2 v3 v4 v5) q t cs := by
  unfold W6
  exact own_far7 (own_far7 (own_far7 (own_far7 (own_far7 (own_far7 h _ _ hq) _ _ hq) _ _ hq) _ _ hq) _ _ hq) _ _ hq
theorem below6 {w w' : World} {B p : Nat} {v0 v1 v2 v3 v4 v5 : Value} (hb : Below B w w') (h : B ≤ p) : Below B w (W6 w' p v0 v1 v2 v3 v4 v5) := by
  unfold W6
  exact (((((hb.setCell h v0).setCell h v1).setCell h v2).setCell h v3).setCell h v4).setCell h v5
/-- the box came ahead of the call. -/
theorem fin_a {W1 w5 w' : World} {p : Nat} {tr ti : TypeId} {rs : List Value} {v0 v1 v2 v3 v4 v5 x0 x1 x2 x3 x4 x5 : Value} (hp : p = W1.heap.size) (h5 : Below W1.heap.size W1 w5) (ob : Own w5 p ti [x0, x1, x2, x3, x4, x5]) (h : (W6 w5 p v0 v1 v2 v3 v4 v5).alloc (.cells rs.toArray tr) = w') :
    Own w' p ti [v0, v1, v2, v3, v4, v5] ∧ Own w' w5.heap.size tr rs ∧ Below W1.heap.size W1 w' := by
  subst h
  have hb := below6 (v0 := v0) (v1 := v1) (v2 := v2) (v3 := v3) (v4 := v4) (v5 := v5) h5 (show W1.heap.size ≤ p by omega)
  exact ⟨(own6 ob).alloc _, made7 (by simp [W6]) _ _, hb.alloc hb.size _⟩
/-- .. behind the row. -/
theorem fin_b {W1 w5 w' : World} {tr ti : TypeId} {rs is : List Value} (h5 : Below W1.heap.size W1 w5) (h : (w5.alloc (.cells rs.toArray tr)).alloc (.cells is.toArray ti) = w') :
    Own w' (w5.heap.size + 1) ti is ∧ Own w' w5.heap.size tr rs ∧ Below W1.heap.size W1 w' := by
  subst h
  exact ⟨made7 (by simp) _ _, (Own.made w5 tr rs).alloc _, (h5.alloc h5.size _).alloc (by simp; have := h5.size; omega) _⟩
/-- .. between the call and the row. -/
theorem fin_c {W1 w5 w' : World} {tr ti : TypeId} {rs is : List Value} (h5 : Below W1.heap.size W1 w5) (h : (w5.alloc (.cells is.toArray ti)).alloc (.cells rs.toArray tr) = w') :
    Own w' w5.heap.size ti is ∧ Own w' (w5.heap.size + 1) tr rs ∧ Below W1.heap.size W1 w' := by
  subst h
  exact ⟨(Own.made w5 ti is).alloc _, made7 (by simp) _ _, (h5.alloc h5.size _).alloc (by simp; have := h5.size; omega) _⟩
set_option maxRecDepth 100000 in
set_option maxHeartbeats 8000000 in
theorem awake7_any (w : World) (hL : Rd5.LaidS w) : Calls Tryd.prog 9 #[] w fun e w' => e = .returned (.bool true) ∧ Below w.heap.size w w' := by
  go_enter Tryd.func9, Tryd.ntmps9
  go_wp2_with fail
  refine (example7_any w).mono ?_
  rintro e w1 ⟨cs, cf, rfl, hp, hf, hb1⟩
  have HP := Lib.hid hp
  have HF := Lib.hid hf
  have HB1 := Lib.hid hb1
  obtain ⟨u1, u2, u3, u4, rfl, k1, k2, k3, k4⟩ := hp
  obtain ⟨f1, f2, f3, rfl, j1, j2, j3⟩ := hf
  obtain ⟨B1, c1, rfl⟩ := k1.form
  obtain ⟨B2, c2, rfl⟩ := k2.form
  obtain ⟨B3, c3, rfl⟩ := k3.form
  obtain ⟨B4, c4, rfl⟩ := k4.form
  obtain ⟨D1, d1, rfl⟩ := j1.form
  obtain ⟨D2, d2, rfl⟩ := j2.form
  obtain ⟨D3, d3, rfl⟩ := j3.form
  clear hb1 k1 k2 k3 k4 j1 j2 j3
  go_wp2_with fail
  obtain ⟨W1, hW1⟩ : ∃ W, ((w1.alloc (.cells #[.bool false, .slice B1 1 c1, .slice B2 0 c2, .slice B3 0 c3, .slice B4 1 c4] 27)).alloc (.cells #[str [102], str [80], .slice D1 1 d1, .slice D2 2 d2, .slice D3 0 d3] 30)).alloc (.cells #[i64 2, str [], i64 1] 32) = W := ⟨_, rfl⟩
  have oP : Own W1 w1.heap.size 27 [.bool false, .slice B1 1 c1, .slice B2 0 c2, .slice B3 0 c3, .slice B4 1 c4] := by rw [← hW1]; exact ((made7 rfl _ _).alloc _).alloc _
  have oF : Own W1 (w1.heap.size + 1) 30 [str [102], str [80], .slice D1 1 d1, .slice D2 2 d2, .slice D3 0 d3] := by rw [← hW1]; exact (made7 (by simp) _ _).alloc _
  have oO : Own W1 (w1.heap.size + 1 + 1) 32 [i64 2, str [], i64 1] := by rw [← hW1]; exact made7 (by simp) _ _
  have hbW : Below w1.heap.size w1 W1 := by rw [← hW1]; exact (((Below.refl _ _).alloc (Nat.le_refl _) _).alloc (by simp) _).alloc (by simp; omega) _
  rw [hW1]
  have x0 : W1.cell? ⟨w1.heap.size + 1 + 1, 0, none⟩ = some (i64 2) := (oO.cell 0).trans rfl
  have x1 : W1.cell? ⟨w1.heap.size + 1 + 1, 1, none⟩ = some (str []) := (oO.cell 1).trans rfl
  have x2 : W1.cell? ⟨w1.heap.size + 1 + 1, 2, none⟩ = some (i64 1) := (oO.cell 2).trans rfl
  have xlt := oO.lt
  have OP := Lib.hid oP
  have OF := Lib.hid oF
  have OO := Lib.hid oO
  have HBW := Lib.hid hbW
  clear hW1 oP oF oO hbW
  go_cut [4] (fun pv wx => ∃ g ga : Nat, pv = .pointer (some ⟨g, 0, none⟩) ∧ Hid (Own wx g 59 [i64 1, str [120], str [], .slice (some ⟨ga, 0, none⟩) 2 2, .slice none 0 0, .slice none 0 0]) ∧ Hid (Own wx ga 32 [i64 2, str [], i64 1, i64 1, str [121], i64 0]) ∧ Hid (Below W1.heap.size W1 wx))
  case first =>
    rename_i J9 K9 hRJ hMK
    go_region_law (first | (go_simp; go_at_call 33; (with_reducible refine (arg_any7 ((W1.alloc (.cells #[i64 0, str [], str [], .slice none 0 0, .slice none 0 0, .slice none 0 0] 59)).drew) [121]).mono ?_); rintro e w5 ⟨rfl, hb5⟩; have hx5 : Below W1.heap.size W1 w5 := (((Below.refl _ W1).alloc (Nat.le_refl _) _).drew).trans (hb5.mono (by simp)); have ob : Own w5 W1.heap.size 59 [i64 0, str [], str [], .slice none 0 0, .slice none 0 0, .slice none 0 0] := ((Own.made W1 59 [i64 0, str [], str [], .slice none 0 0, .slice none 0 0, .slice none 0 0]).drew).below hb5 (by simp); have k0 := (ob.cell 0).trans rfl; have k1 := (ob.cell 1).trans rfl; have k2 := (ob.cell 2).trans rfl; have k3 := (ob.cell 3).trans rfl; have k4 := (ob.cell 4).trans rfl; have k5 := (ob.cell 5).trans rfl; have l0 := ob.thaw 0; have l1 := ob.thaw 1; have l2 := ob.thaw 2; have l3 := ob.thaw 3; have l4 := ob.thaw 4; have l5 := ob.thaw 5; have kl := ob.lt; have y0 := (hx5.cell (p := ⟨w1.heap.size + 1 + 1, 0, none⟩) xlt).trans x0; have y1 := (hx5.cell (p := ⟨w1.heap.size + 1 + 1, 1, none⟩) xlt).trans x1; have y2 := (hx5.cell (p := ⟨w1.heap.size + 1 + 1, 2, none⟩) xlt).trans x2; have xl5 : w1.heap.size + 1 + 1 < w5.heap.size := Nat.lt_of_lt_of_le xlt hx5.size; have HX5 := Lib.hid hx5; have HOB := Lib.hid ob; clear hb5 hx5 ob) | (go_simp; go_at_call 33; (with_reducible refine (arg_any7 W1.drew [121]).mono ?_); rintro e w5 ⟨rfl, hb5⟩; have hx5 : Below W1.heap.size W1 w5 := ((Below.refl _ W1).drew).trans (hb5.mono (by simp)); have y0 := (hx5.cell (p := ⟨w1.heap.size + 1 + 1, 0, none⟩) xlt).trans x0; have y1 := (hx5.cell (p := ⟨w1.heap.size + 1 + 1, 1, none⟩) xlt).trans x1; have y2 := (hx5.cell (p := ⟨w1.heap.size + 1 + 1, 2, none⟩) xlt).trans x2; have xl5 : w1.heap.size + 1 + 1 < w5.heap.size := Nat.lt_of_lt_of_le xlt hx5.size; have HX5 := Lib.hid hx5; clear hb5 hx5))
    all_goals
      refine hMK _ _ (hRJ _ _ ?_)
      clear hMK hRJ
      first
        | (obtain ⟨WX, hWX⟩ : ∃ WX, (W6 w5 W1.heap.size (i64 1) (str [120]) (str []) (.slice (some ⟨w5.heap.size, 0, none⟩) 2 2) (Value.slice none 0 0) (Value.slice none 0 0)).alloc (.cells #[i64 2, str [], i64 1, i64 1, str [121], i64 0] 32) = WX := ⟨_, rfl⟩
           have hf := fin_a rfl HX5.out HOB.out hWX
           unfold W6 at hWX
           rw [hWX]
           clear hWX
           (repeat apply Exists.intro)
           exact ⟨⟨W1.heap.size, w5.heap.size, rfl, Lib.hid hf.1, Lib.hid hf.2.1, Lib.hid hf.2.2⟩, rfl⟩)
        | (obtain ⟨WX, hWX⟩ : ∃ WX, (w5.alloc (.cells #[i64 2, str [], i64 1, i64 1, str [121], i64 0] 32)).alloc (.cells #[i64 1, str [120], str [], .slice (some ⟨w5.heap.size, 0, none⟩) 2 2, .slice none 0 0, .slice none 0 0] 59) = WX := ⟨_, rfl⟩
           have hf := fin_b HX5.out hWX
           rw [hWX]
           clear hWX
           (repeat apply Exists.intro)
           exact ⟨⟨w5.heap.size + 1, w5.heap.size, rfl, Lib.hid hf.1, Lib.hid hf.2.1, Lib.hid hf.2.2⟩, rfl⟩)
        | (obtain ⟨WX, hWX⟩ : ∃ WX, (w5.alloc (.cells #[i64 1, str [120], str [], .slice (some ⟨w5.heap.size + 1, 0, none⟩) 2 2, .slice none 0 0, .slice none 0 0] 59)).alloc (.cells #[i64 2, str [], i64 1, i64 1, str [121], i64 0] 32) = WX := ⟨_, rfl⟩
           have hf := fin_c HX5.out hWX
           rw [hWX]
           clear hWX
           (repeat apply Exists.intro)
           exact ⟨⟨w5.heap.size, w5.heap.size + 1, rfl, Lib.hid hf.1, Lib.hid hf.2.1, Lib.hid hf.2.2⟩, rfl⟩)
        | ((repeat apply Exists.intro); exact ⟨⟨0, 0, rfl, True.intro, True.intro, True.intro⟩, rfl⟩)
  case rest =>
  obtain ⟨g1, a1, rfl, HI1, HA1, HB2⟩ := hcut
  obtain ⟨W2, hW2⟩ : ∃ W, W = wc := ⟨_, rfl⟩
  subst hW2
  clear x0 x1 x2 xlt
  go_wp2_with fail
  refine (arg_any7 W2 [111]).mono ?_
  rintro e w3 ⟨rfl, hb⟩
  obtain ⟨W3, hW⟩ : ∃ W, (w3.alloc (.cells #[i64 1, str [111], i64 0] 32)).alloc (.cells #[i64 26, str [120], str [97], .slice (some ⟨w3.heap.size, 0, none⟩) 1 1, .slice none 0 0, .slice none 0 0] 59) = W := ⟨_, rfl⟩
  have hf := fin_b hb hW
  have HW3 := Lib.hid hW
  have HI2 := Lib.hid hf.1
  have HA2 := Lib.hid hf.2.1
  have HB3 := Lib.hid hf.2.2
  clear hb hW hf
  go_wp2_with fail
  rw [HW3.out]
  refine (arg_any7 W3 [111]).mono ?_
  rintro e w3 ⟨rfl, hb⟩
  obtain ⟨W4, hW⟩ : ∃ W, (w3.alloc (.cells #[i64 1, str [111], i64 0] 32)).alloc (.cells #[i64 26, str [111], str [97], .slice (some ⟨w3.heap.size, 0, none⟩) 1 1, .slice none 0 0, .slice none 0 0] 59) = W := ⟨_, rfl⟩
  have hf := fin_b hb hW
  have HW4 := Lib.hid hW
  have HI3 := Lib.hid hf.1
  have HA3 := Lib.hid hf.2.1
  have HB4 := Lib.hid hf.2.2
  have po := OP.out.below (HB2.out.trans (HB3.out.mono HB2.out.size |>.trans (hb.mono (Nat.le_trans HB2.out.size HB3.out.size)))) OP.out.lt
  have p0 := (po.cell 0).trans rfl
  have p1 := (po.cell 1).trans rfl
  have p2 := (po.cell 2).trans rfl
  have p3 := (po.cell 3).trans rfl
  have p4 := (po.cell 4).trans rfl
  have pl := po.lt
  clear po
  have pl1 := Nat.lt_succ_of_lt pl
  have pl2 := Nat.lt_succ_of_lt pl1
  clear hb hW hf
  go_wp2_with fail
  rw [HW4.out]
  clear p0 p1 p2 p3 p4 pl pl1 pl2
  have HC4 := Lib.hid (HB2.out.trans (HB3.out.mono HB2.out.size |>.trans (HB4.out.mono (Nat.le_trans HB2.out.size HB3.out.size))))
  have HX4 := Lib.hid (HBW.out.trans (HC4.out.mono HBW.out.size))
  have HD42 := Lib.hid (HB3.out.trans (HB4.out.mono HB3.out.size))
  have HD43 := HB4
  have HD44 := Lib.hid (Below.refl W4.heap.size W4)
  refine (heads_any 0 w1.heap.size W4 _ exP (ProgC.move (Still.of_below HX4.out) HP.out) HX4.out.size (by unfold LenP; decide) (by unfold NamP; decide)).mono ?_
  rw [show headsT exP = true by decide]
  rintro e W5 ⟨rfl, hb⟩
  have HN5 := Lib.hid hb
  clear hb
  have HC5 := Lib.hid (HC4.out.trans (HN5.out.mono HC4.out.size))
  have HX5 := Lib.hid (HX4.out.trans (HN5.out.mono HX4.out.size))
  have HD52 := Lib.hid (HD42.out.trans (HN5.out.mono HD42.out.size))
  have HD53 := Lib.hid (HD43.out.trans (HN5.out.mono HD43.out.size))
  have HD54 := Lib.hid (HD44.out.trans (HN5.out.mono HD44.out.size))
  have po := OP.out.below HC5.out OP.out.lt
  have p0 := (po.cell 0).trans rfl
  have p1 := (po.cell 1).trans rfl
  have p2 := (po.cell 2).trans rfl
  have p3 := (po.cell 3).trans rfl
  have p4 := (po.cell 4).trans rfl
  have pl := po.lt
  clear po
  have fo := OF.out.below HC5.out OF.out.lt
  have f0 := (fo.cell 0).trans rfl
  have f1 := (fo.cell 1).trans rfl
  have f2 := (fo.cell 2).trans rfl
  have f3 := (fo.cell 3).trans rfl
  have f4 := (fo.cell 4).trans rfl
  have fl := fo.lt
  clear fo
  have io := HI1.out.below HD52.out HI1.out.lt
  have i0 := (io.cell 0).trans rfl
  have i1 := (io.cell 1).trans rfl
  have i2 := (io.cell 2).trans rfl
  have i3 := (io.cell 3).trans rfl
  have i4 := (io.cell 4).trans rfl
  have i5 := (io.cell 5).trans rfl
  have il := io.lt
  clear io
  have QI := instr_any7 W5.heap.size W5 _ _ _ exP exF ⟨1, [120], [], [⟨2, [], 1⟩, ⟨1, [121], 0⟩], [], []⟩ (ProgC.move ⟨fun k _ hk => HX5.out.block k hk, Nat.zero_le _, HX5.out.size⟩ HP.out) (FuncC.move ⟨fun k _ hk => HX5.out.block k hk, Nat.zero_le _, HX5.out.size⟩ HF.out) ⟨_, _, _, rfl, (two7a (HA1.out.below HD52.out HA1.out.lt) (HA1.out.below HD52.out HA1.out.lt).lt), zero7, zero7⟩ (Nat.le_refl _) (hL.below (HB1.out.trans (HX5.out.mono HB1.out.size)) (Nat.le_refl _))
  rw [show instrT exP exF ⟨1, [120], [], [⟨2, [], 1⟩, ⟨1, [121], 0⟩], [], []⟩ = true by decide] at QI
  have QI := Lib.hid QI
  go_wp2_with fail
  refine QI.out.mono ?_
  rintro e W6 ⟨rfl, hb⟩
  have HN6 := Lib.hid hb
  clear hb QI p0 p1 p2 p3 p4 pl f0 f1 f2 f3 f4 fl i0 i1 i2 i3 i4 i5 il
  have HC6 := Lib.hid (HC5.out.trans (HN6.out.mono HC5.out.size))
  have HX6 := Lib.hid (HX5.out.trans (HN6.out.mono HX5.out.size))
  have HD62 := Lib.hid (HD52.out.trans (HN6.out.mono HD52.out.size))
  have HD63 := Lib.hid (HD53.out.trans (HN6.out.mono HD53.out.size))
  have HD64 := Lib.hid (HD54.out.trans (HN6.out.mono HD54.out.size))
  have po := OP.out.below HC6.out OP.out.lt
  have p0 := (po.cell 0).trans rfl
  have p1 := (po.cell 1).trans rfl
  have p2 := (po.cell 2).trans rfl
  have p3 := (po.cell 3).trans rfl
  have p4 := (po.cell 4).trans rfl
  have pl := po.lt
  clear po
  have fo := OF.out.below HC6.out OF.out.lt
  have f0 := (fo.cell 0).trans rfl
  have f1 := (fo.cell 1).trans rfl
  have f2 := (fo.cell 2).trans rfl
  have f3 := (fo.cell 3).trans rfl
  have f4 := (fo.cell 4).trans rfl
  have fl := fo.lt
  clear fo
  have io := HI2.out.below HD63.out HI2.out.lt
  have i0 := (io.cell 0).trans rfl
  have i1 := (io.cell 1).trans rfl
  have i2 := (io.cell 2).trans rfl
  have i3 := (io.cell 3).trans rfl
  have i4 := (io.cell 4).trans rfl
  have i5 := (io.cell 5).trans rfl
  have il := io.lt
  clear io
  have QI := instr_any7 W6.heap.size W6 _ _ _ exP exF ⟨26, [120], [97], [⟨1, [111], 0⟩], [], []⟩ (ProgC.move ⟨fun k _ hk => HX6.out.block k hk, Nat.zero_le _, HX6.out.size⟩ HP.out) (FuncC.move ⟨fun k _ hk => HX6.out.block k hk, Nat.zero_le _, HX6.out.size⟩ HF.out) ⟨_, _, _, rfl, (one7 (HA2.out.below HD63.out HA2.out.lt) (HA2.out.below HD63.out HA2.out.lt).lt rfl rfl), zero7, zero7⟩ (Nat.le_refl _) (hL.below (HB1.out.trans (HX6.out.mono HB1.out.size)) (Nat.le_refl _))
  rw [show instrT exP exF ⟨26, [120], [97], [⟨1, [111], 0⟩], [], []⟩ = true by decide] at QI
  have QI := Lib.hid QI
  go_wp2_with fail
  refine QI.out.mono ?_
  rintro e W7 ⟨rfl, hb⟩
  have HN7 := Lib.hid hb
  clear hb QI p0 p1 p2 p3 p4 pl f0 f1 f2 f3 f4 fl i0 i1 i2 i3 i4 i5 il
  have HC7 := Lib.hid (HC6.out.trans (HN7.out.mono HC6.out.size))
  have HX7 := Lib.hid (HX6.out.trans (HN7.out.mono HX6.out.size))
  have HD72 := Lib.hid (HD62.out.trans (HN7.out.mono HD62.out.size))
  have HD73 := Lib.hid (HD63.out.trans (HN7.out.mono HD63.out.size))
  have HD74 := Lib.hid (HD64.out.trans (HN7.out.mono HD64.out.size))
  have po := OP.out.below HC7.out OP.out.lt
  have p0 := (po.cell 0).trans rfl
  have p1 := (po.cell 1).trans rfl
  have p2 := (po.cell 2).trans rfl
  have p3 := (po.cell 3).trans rfl
  have p4 := (po.cell 4).trans rfl
  have pl := po.lt
  clear po
  have fo := OF.out.below HC7.out OF.out.lt
  have f0 := (fo.cell 0).trans rfl
  have f1 := (fo.cell 1).trans rfl
  have f2 := (fo.cell 2).trans rfl
  have f3 := (fo.cell 3).trans rfl
  have f4 := (fo.cell 4).trans rfl
  have fl := fo.lt
  clear fo
  have io := HI3.out.below HD74.out HI3.out.lt
  have i0 := (io.cell 0).trans rfl
  have i1 := (io.cell 1).trans rfl
  have i2 := (io.cell 2).trans rfl
  have i3 := (io.cell 3).trans rfl
  have i4 := (io.cell 4).trans rfl
  have i5 := (io.cell 5).trans rfl
  have il := io.lt
  clear io
  have QI := instr_any7 W7.heap.size W7 _ _ _ exP exF ⟨26, [111], [97], [⟨1, [111], 0⟩], [], []⟩ (ProgC.move ⟨fun k _ hk => HX7.out.block k hk, Nat.zero_le _, HX7.out.size⟩ HP.out) (FuncC.move ⟨fun k _ hk => HX7.out.block k hk, Nat.zero_le _, HX7.out.size⟩ HF.out) ⟨_, _, _, rfl, (one7 (HA3.out.below HD74.out HA3.out.lt) (HA3.out.below HD74.out HA3.out.lt).lt rfl rfl), zero7, zero7⟩ (Nat.le_refl _) (hL.below (HB1.out.trans (HX7.out.mono HB1.out.size)) (Nat.le_refl _))
  rw [show instrT exP exF ⟨26, [111], [97], [⟨1, [111], 0⟩], [], []⟩ = false by decide] at QI
  have QI := Lib.hid QI
  go_wp2_with fail
  refine QI.out.mono ?_
  rintro e W8 ⟨rfl, hb⟩
  have HN8 := Lib.hid hb
  clear hb QI p0 p1 p2 p3 p4 pl f0 f1 f2 f3 f4 fl i0 i1 i2 i3 i4 i5 il
  have HC8 := Lib.hid (HC7.out.trans (HN8.out.mono HC7.out.size))
  have HX8 := Lib.hid (HX7.out.trans (HN8.out.mono HX7.out.size))
  have HD82 := Lib.hid (HD72.out.trans (HN8.out.mono HD72.out.size))
  have HD83 := Lib.hid (HD73.out.trans (HN8.out.mono HD73.out.size))
  have HD84 := Lib.hid (HD74.out.trans (HN8.out.mono HD74.out.size))
  have fo := OF.out.below HC8.out OF.out.lt
  have f0 := (fo.cell 0).trans rfl
  have f1 := (fo.cell 1).trans rfl
  have f2 := (fo.cell 2).trans rfl
  have f3 := (fo.cell 3).trans rfl
  have f4 := (fo.cell 4).trans rfl
  have fl := fo.lt
  clear fo
  have QE := end_any7 0 w1.heap.size 0 W8.heap.size W8 _ _ exF ⟨3, ⟨4, [], 0⟩, [], 0⟩ (FuncC.move (Still.of_below HX8.out) HF.out) ⟨_, rfl, zero7⟩ HX8.out.size
  rw [show endT exF ⟨3, ⟨4, [], 0⟩, [], 0⟩ = true by decide] at QE
  have QE := Lib.hid QE
  go_wp2_with fail
  refine QE.out.mono ?_
  rintro e W9 ⟨rfl, hb⟩
  have HN9 := Lib.hid hb
  clear hb QE f0 f1 f2 f3 f4 fl
  have HC9 := Lib.hid (HC8.out.trans (HN9.out.mono HC8.out.size))
  have HX9 := Lib.hid (HX8.out.trans (HN9.out.mono HX8.out.size))
  have HD92 := Lib.hid (HD82.out.trans (HN9.out.mono HD82.out.size))
  have HD93 := Lib.hid (HD83.out.trans (HN9.out.mono HD83.out.size))
  have HD94 := Lib.hid (HD84.out.trans (HN9.out.mono HD84.out.size))
  have fo := OF.out.below HC9.out OF.out.lt
  have f0 := (fo.cell 0).trans rfl
  have f1 := (fo.cell 1).trans rfl
  have f2 := (fo.cell 2).trans rfl
  have f3 := (fo.cell 3).trans rfl
  have f4 := (fo.cell 4).trans rfl
  have fl := fo.lt
  clear fo
  have xo := OO.out.below HC9.out OO.out.lt
  have x0 := (xo.cell 0).trans rfl
  have x1 := (xo.cell 1).trans rfl
  have x2 := (xo.cell 2).trans rfl
  have xl := xo.lt
  clear xo
  have QE := end_any7 0 w1.heap.size 0 W9.heap.size W9 _ _ exF ⟨3, ⟨2, [], 1⟩, [], 0⟩ (FuncC.move (Still.of_below HX9.out) HF.out) ⟨_, rfl, zero7⟩ HX9.out.size
  rw [show endT exF ⟨3, ⟨2, [], 1⟩, [], 0⟩ = false by decide] at QE
  have QE := Lib.hid QE
  go_wp2_with fail
  refine QE.out.mono ?_
  rintro e W10 ⟨rfl, hb⟩
  have HN10 := Lib.hid hb
  clear hb QE f0 f1 f2 f3 f4 fl x0 x1 x2 xl
  go_wp2_with fail
  go_ret
  exact ⟨rfl, HB1.out.trans ((HX9.out.trans (HN10.out.mono HX9.out.size)).mono HB1.out.size)⟩
end Go.Proofs.YtikfncgdjnljiaaDoor.L07
