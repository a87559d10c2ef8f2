/-
  What is alike has the same fields, along whatever way.
-/
import Derived.Test.YtnkcpbfbehciaaaRows
import Derived.Test.YtnkcpbfbehciaaaLaw15
import Derived.Test.YtnkcpbfbehciaaaOpenH
import Derived.Test.YtnkcpbfbehciaaaOpenI
import Derived.Deep.RegionHeld3
import Derived.Deep.LoopGhost
import Derived.Deep.DeepCutAuto
import Derived.Deep.RegionLaw
import Derived.Test.YtnkcpbfbehciaaaShell
import Derived.ProofKit
import Derived.OpenShut
import Derived.SizedLaws
namespace Go.Proofs.Ytnkcpbfbehciaaa.heapDeep
open Go.ChangeShapes Go.WideShapes Go.ChangeAt Go.RowKit
open Api Mem Hp15 L15
namespace Row1
theorem addr {α : Type} {lo hi : Nat} {w : World} {A : Option Addr} {n cap : Nat} {P : List Value → α → Prop} {l : List α} (h : Row lo hi w 1 P (.slice A n cap) l) (h0 : 0 < n) : ∃ b off, A = some ⟨b, off, none⟩ ∧ b < hi := by
  obtain ⟨b, off, _, _, ha, _⟩ := h.get
  exact ⟨b, off, (ha h0).1, (ha h0).2.2⟩
theorem cell {lo hi : Nat} {w w' : World} {b off n cap i : Nat} {l : List Int} {x : Int} (h : Row lo hi w 1 (fun cs x => cs = [i64 x]) (.slice (some ⟨b, off, none⟩) n cap) l) (hx : l[i]? = some x) (hb : Below hi w w') : w'.cell? ⟨b, off + i, none⟩ = some (i64 x) := by
  obtain ⟨b', off', hn, hm, ha, hc⟩ := h.get
  have hi := (List.getElem?_eq_some_iff.1 hx).1
  obtain ⟨e, h1, h2⟩ := ha (by omega)
  simp only [Option.some.injEq, Addr.mk.injEq, and_true] at e
  obtain ⟨rfl, rfl⟩ := e
  obtain ⟨cs, c1, c2, c3⟩ := hc i x hx
  subst c3
  have := cells_later c2 hb h2 0 _ rfl
  simpa using this
end Row1
theorem after_box {wr w6 : World} {t : TypeId} {a b : Value} (hb : Below (wr.alloc (.cells #[a, b] t)).drew.heap.size (wr.alloc (.cells #[a, b] t)).drew w6) : Mem.Own w6 wr.heap.size t [a, b] ∧ w6.cell? ⟨wr.heap.size, 0, none⟩ = some a ∧ w6.cell? ⟨wr.heap.size, 1, none⟩ = some b ∧ w6.frozen? ⟨wr.heap.size, 0, none⟩ = false ∧ w6.frozen? ⟨wr.heap.size, 1, none⟩ = false ∧ wr.heap.size < w6.heap.size ∧ Below wr.heap.size wr w6 := by
  have h1 : Below (wr.alloc (.cells #[a, b] t)).heap.size (wr.alloc (.cells #[a, b] t)) w6 := ((Below.refl _ _).drew).trans hb
  obtain ⟨o, c0, c1, c2, c3, c4⟩ := box2 (Own.made wr t [a, b]) h1
  exact ⟨o, c0, c1, c2, c3, c4, (up15 wr _).trans (h1.mono (by simp))⟩
theorem own_by {w : World} {g : Nat} {t : TypeId} {cs : List Value} {p : Addr} (h : Mem.Own w g t cs) (hne : ¬ g = p.block) (u : Value) : Mem.Own (w.setCell p u) g t cs := (Below.heap_setCell w p u g hne).trans h
theorem turn_at {n : Nat} {x : Int} (hn : 1 ≤ n) (h2 : n ≤ 60) : ∃ b : Nat, wrap64 ((IntKind.u64.wrap x).tmod (n : Int)) = (b : Int) ∧ b < n := by
  have h0 : 0 ≤ IntKind.u64.wrap x := by
    have h3 : IntKind.u64.wrap x = x % 18446744073709551616 := by simp [IntKind.wrap, IntKind.signed, IntKind.bits]
    omega
  obtain ⟨y, hy⟩ : ∃ y : Nat, IntKind.u64.wrap x = (y : Int) := ⟨(IntKind.u64.wrap x).toNat, by omega⟩
  rw [hy, show (y : Int).tmod (n : Int) = ((y % n : Nat) : Int) from rfl]
  have h4 := Nat.mod_lt y (by omega : 0 < n)
  refine ⟨y % n, ?_, h4⟩
  unfold wrap64
  omega
theorem deep_next {h k : Hp} {P : Int → Int → Prop} {x y v u : Vl} {at_ : Int} {ok is : Bool} (hi : InjP P) (hc : ClP h k P) (hv : AV h k P x y) (f1 : FieldP h x at_ v ok) (f2 : FieldP k y at_ u is) : ok = is ∧ (ok = true → AV h k P v u) := by
  have key : ∀ {o : Ob}, LeadsP h x → h[plH x]? = some o → ∃ p, k[plH y]? = some p ∧ LeadsP k y ∧ AVs h k P o.vals p.vals := fun {o} hl ho => by
    have e1 := hl.1
    obtain ⟨b1, b2, b3⟩ := hv.2.2 e1
    obtain ⟨o', p, c1, c2, _, c4⟩ := hc _ _ (b3 hl)
    obtain ⟨_, _, d1⟩ := obj_range c1
    obtain ⟨_, _, d2⟩ := obj_range c2
    rw [show plH x = (x.n - 1).toNat from rfl, d1] at ho
    cases ho
    exact ⟨p, d2, b2.1 hl, c4⟩
  rcases f1 with ⟨rfl, ⟨a1, a2, o, a3, a4⟩, o2, a5, a6⟩ | ⟨rfl, a1, rfl⟩ <;> rcases f2 with ⟨rfl, ⟨b1, b2, p, b3, b4⟩, p2, b5, b6⟩ | ⟨rfl, b1, rfl⟩
  · obtain ⟨q, c1, _, c3⟩ := key a1 a5
    rw [b5] at c1
    cases c1
    exact ⟨rfl, fun _ => c3.2 _ _ _ a6 b6⟩
  · obtain ⟨q, c1, c2, c3⟩ := key a1 a3
    exact absurd ⟨c2, a2, q, c1, by rw [← c3.1]; exact a4⟩ b1
  · have hl : LeadsP h x := by
      have e1 : x.ty = wRef := hv.1.trans b1.1
      exact (hv.2.2 e1).2.1.2 b1
    obtain ⟨o, ho⟩ := leads_obj hl
    obtain ⟨_, _, ho2⟩ := obj_range ho
    obtain ⟨q, c1, _, c3⟩ := key hl ho2
    rw [b3] at c1
    cases c1
    exact absurd ⟨hl, b2, o, ho2, by rw [c3.1]; exact b4⟩ a1
  · exact ⟨rfl, fun h => (by cases h)⟩
set_option maxRecDepth 100000 in
set_option maxHeartbeats 16000000 in
theorem walk (v0 : Value) (h : Hp) (v1 : Value) (a : List Vl) (v2 : Value) (k : Hp) (v3 : Value) (b : List Vl) (v4 : Value) (way : List Int) {w : World} (hq0 : Obs 0 w.heap.size w v0 h ∧ hpG h) (hq1 : Vls 0 w.heap.size w v1 a ∧ ∀ x ∈ a, vlG x) (hq2 : Obs 0 w.heap.size w v2 k ∧ hpG k) (hq3 : Vls 0 w.heap.size w v3 b ∧ ∀ x ∈ b, vlG x) (hq4 : Row 0 w.heap.size w 1 (fun cs x => cs = [i64 x]) v4 way ∧ ∀ x ∈ way, NumM.In x) :
    Calls Try.prog 5 #[v0, v1, v2, v3, v4] w fun e w' => e = .returned (.bool true) ∧ Below w.heap.size w w' := by
  obtain ⟨A0, k0, rfl⟩ := Row.form hq0.1
  obtain ⟨A1, k1, rfl⟩ := Row.form hq1.1
  obtain ⟨A2, k2, rfl⟩ := Row.form hq2.1
  obtain ⟨A3, k3, rfl⟩ := Row.form hq3.1
  obtain ⟨A4, k4, rfl⟩ := Row.form hq4.1
  have HG := Lib.hid hq0.1
  have HGG := Lib.hid hq0.2
  have HA := Lib.hid hq1.1
  have HGA := Lib.hid hq1.2
  have HK := Lib.hid hq2.1
  have HGK := Lib.hid hq2.2
  have HB := Lib.hid hq3.1
  have HGB := Lib.hid hq3.2
  have HW := Lib.hid hq4.1
  have HGW := Lib.hid hq4.2
  clear hq0 hq1 hq2 hq3 hq4
  go_enter Try.func5, Try.ntmps5
  go_wp2_with fail
  refine (L15.awake_any w).mono ?_
  rintro e w1 ⟨rfl, hb1⟩
  have HX1 := Lib.hid hb1
  clear hb1
  go_wp2_with fail
  refine (few_any 0 w.heap.size w1 _ h (Obs.move (Still.of_below HX1.out) HG.out) HX1.out.size).mono ?_
  rintro e w2 ⟨bf, rfl, hfew, hbf⟩
  have HX2 := Lib.hid (HX1.out.trans (hbf.mono HX1.out.size))
  clear hbf
  cases bf with
  | false =>
    clear hfew
    go_wp2_with fail
    refine (L15.awake_any w2).mono ?_
    rintro e wz ⟨rfl, hbz⟩
    have HZ := Lib.hid (HX2.out.trans (hbz.mono HX2.out.size))
    clear hbz
    go_wp2_with fail
    go_ret
    exact ⟨rfl, HZ.out⟩
  | true =>
    have HF1 := Lib.hid (hfew rfl)
    clear hfew
    go_wp2_with fail
    refine (few_any 0 w.heap.size w2 _ k (Obs.move (Still.of_below HX2.out) HK.out) HX2.out.size).mono ?_
    rintro e w3 ⟨bf, rfl, hfew, hbf⟩
    have HX3 := Lib.hid (HX2.out.trans (hbf.mono HX2.out.size))
    clear hbf
    cases bf with
    | false =>
      clear hfew
      go_wp2_with fail
      refine (L15.awake_any w3).mono ?_
      rintro e wz ⟨rfl, hbz⟩
      have HZ := Lib.hid (HX3.out.trans (hbz.mono HX3.out.size))
      clear hbz
      go_wp2_with fail
      go_ret
      exact ⟨rfl, HZ.out⟩
    | true =>
      have HF2 := Lib.hid (hfew rfl)
      clear hfew
      by_cases l1 : a.length ≤ 50
      · by_cases l2 : b.length ≤ 50
        · by_cases l3 : way.length ≤ 100
          · have e1 : decide ((50 : Int) < (a.length : Int)) = false := decide_eq_false (by omega)
            have e2 : decide ((50 : Int) < (b.length : Int)) = false := decide_eq_false (by omega)
            have e3 : decide ((100 : Int) < (way.length : Int)) = false := decide_eq_false (by omega)
            go_wp2_with fail
            refine (alike_any (h := h) (k := k) (lo := 0) (hi := w.heap.size) (Obs.move (Still.of_below HX3.out) HG.out) (Vls.move (Still.of_below HX3.out) HA.out) (Obs.move (Still.of_below HX3.out) HK.out) (Vls.move (Still.of_below HX3.out) HB.out) HX3.out.size HGG.out HGK.out HGA.out HGB.out (by have := HF1.out.1; omega) (by have := HF2.out.1; omega)).mono ?_
            rintro e w4 ⟨b4, rfl, hal, hb4⟩
            have HX4 := Lib.hid (HX3.out.trans (hb4.mono HX3.out.size))
            clear hb4
            cases b4 with
            | false =>
              clear hal
              go_wp2_with fail
              refine (L15.awake_any w4).mono ?_
              rintro e wz ⟨rfl, hbz⟩
              have HZ := Lib.hid (HX4.out.trans (hbz.mono HX4.out.size))
              clear hbz
              go_wp2_with fail
              go_ret
              exact ⟨rfl, HZ.out⟩
            | true =>
              have HAL := Lib.hid (hal.1 rfl)
              clear hal
              by_cases l4 : a.length = 0
              · have e4 : ((a.length : Int) == 0) = true := by rw [l4]; rfl
                go_wp2_with fail
                refine (L15.awake_any w4).mono ?_
                rintro e wz ⟨rfl, hbz⟩
                have HZ := Lib.hid (HX4.out.trans (hbz.mono HX4.out.size))
                clear hbz
                go_wp2_with fail
                go_ret
                exact ⟨rfl, HZ.out⟩
              · by_cases l5 : way.length = 0
                · have e4 : ((a.length : Int) == 0) = false := by rw [beq_eq_false_iff_ne]; omega
                  have e4b : ¬ ((a.length : Int) = 0) := by omega
                  have e5 : ((way.length : Int) == 0) = true := by rw [l5]; rfl
                  go_wp2_with fail
                  refine (L15.awake_any w4).mono ?_
                  rintro e wz ⟨rfl, hbz⟩
                  have HZ := Lib.hid (HX4.out.trans (hbz.mono HX4.out.size))
                  clear hbz
                  go_wp2_with fail
                  go_ret
                  exact ⟨rfl, HZ.out⟩
                · have e4 : ((a.length : Int) == 0) = false := by rw [beq_eq_false_iff_ne]; omega
                  have e4b : ¬ ((a.length : Int) = 0) := by omega
                  have e5 : ((way.length : Int) == 0) = false := by rw [beq_eq_false_iff_ne]; omega
                  have e5b : ¬ ((way.length : Int) = 0) := by omega
                  obtain ⟨P, hP1, hP2, hP3⟩ := HAL.out
                  have HP1 := Lib.hid hP1
                  have HP2 := Lib.hid hP2
                  have HP3 := Lib.hid hP3
                  have HBL := Lib.hid (show b.length = a.length from hP3.1.symm)
                  obtain ⟨x0, hx0⟩ : ∃ x, way[0]? = some x := ⟨_, List.getElem?_eq_getElem (by omega)⟩
                  obtain ⟨bw, ow, rfl, _⟩ := Row1.addr HW.out (by omega)
                  have mw := Row1.cell HW.out hx0 HX4.out
                  rw [Nat.add_zero] at mw
                  obtain ⟨t, ht, htl⟩ := turn_at (x := x0) (show 1 ≤ a.length by omega) (by omega)
                  have htb : t < b.length := by have := HBL.out; omega
                  obtain ⟨x, hx⟩ : ∃ x, a[t]? = some x := ⟨_, List.getElem?_eq_getElem htl⟩
                  obtain ⟨y, hy⟩ : ∃ y, b[t]? = some y := ⟨_, List.getElem?_eq_getElem htb⟩
                  obtain ⟨ba, oa, rfl, _⟩ := addr2 HA.out (by omega)
                  obtain ⟨bb, ob, rfl, _⟩ := addr2 HB.out (by have := HBL.out; omega)
                  obtain ⟨m1, m2⟩ := vl_at HA.out hx HX4.out
                  obtain ⟨m3, m4⟩ := vl_at HB.out hy HX4.out
                  have HAV := Lib.hid (HP3.out.2 t x y hx hy)
                  have ll := World.block_lt_of_cell? w4 _ m1
                  have ll2 := World.block_lt_of_cell? w4 _ m3
                  simp only at ll ll2
                  have ll3 : bb < w4.heap.size + 1 := by omega
                  obtain ⟨W, hW⟩ : ∃ W, (w4.alloc (Obj.cells #[str x.ty, i64 x.n] 25)).alloc (Obj.cells #[str y.ty, i64 y.n] 25) = W := ⟨_, rfl⟩
                  have HXO := Lib.hid (show Mem.Own W w4.heap.size 25 [str x.ty, i64 x.n] from hW ▸ (Own.made w4 _ _).alloc _)
                  have HYO := Lib.hid (show Mem.Own W (w4.heap.size + 1) 25 [str y.ty, i64 y.n] from hW ▸ made15 (by simp) _ _)
                  have HXW := Lib.hid (HX4.out.trans ((show Below w4.heap.size w4 W from hW ▸ (up15 w4 _).trans ((up15 _ _).mono (by simp))).mono HX4.out.size))
                  have HWW := Lib.hid hW
                  have HWS := Lib.hid HX4.out.size
                  clear hP1 hP2 hP3 hx hy hW
                  go_wp2_with fail
                  rw [HWW.out]
                  simp only [ht]
                  clear m1 m2 m3 m4 ll ll2 ll3 mw ht
                  go_loopg [14] way.length (fun gg i wr => ∃ (c : Nat) (xx yy : Vl), 1 ≤ c ∧ c ≤ way.length ∧ way.length ≤ c + gg ∧ i = .int .i64 c ∧ Hid (AV h k P xx yy) ∧ Hid (Mem.Own wr w4.heap.size 25 [str xx.ty, i64 xx.n]) ∧ Hid (Mem.Own wr (w4.heap.size + 1) 25 [str yy.ty, i64 yy.n]) ∧ Hid (Below w.heap.size w wr))
                  case atStart => exact ⟨1, x, y, Nat.le_refl _, by omega, by omega, rfl, HAV, HXO, HYO, HXW⟩
                  case round =>
                  obtain ⟨c, xx, yy, hc1, hc2, hgk, rfl, HV, HXb, HYb, HBr⟩ := hrel
                  obtain ⟨_, p0, p1, p2, p3, p4⟩ := box2 HXb.out (Below.refl _ _)
                  obtain ⟨_, q0, q1, q2, q3, q4⟩ := box2 HYb.out (Below.refl _ _)
                  by_cases hlt : c < way.length
                  · obtain ⟨d, hd⟩ : ∃ x, way[c]? = some x := ⟨_, List.getElem?_eq_getElem hlt⟩
                    have md := Row1.cell HW.out hd HBr.out
                    have ml := World.block_lt_of_cell? wr _ md
                    simp only at ml
                    clear hd
                    obtain ⟨tx, nx⟩ := xx
                    obtain ⟨ty, ny⟩ := yy
                    obtain ⟨g1, g2, g3⟩ := HV.out
                    simp only at g1 g2 g3
                    subst g1
                    have hcase : (tx ≠ wRef ∧ nx = ny) ∨ (tx = wRef ∧ nx = 0 ∧ ny = 0) ∨ (tx = wRef ∧ nx ≠ 0 ∧ ny ≠ 0) := by
                      by_cases z1 : tx = wRef
                      · have z2 := (g3 z1).1
                        by_cases z3 : nx = 0
                        · exact .inr (.inl ⟨z1, z3, z2.1 z3⟩)
                        · exact .inr (.inr ⟨z1, z3, fun z4 => z3 (z2.2 z4)⟩)
                      · exact .inl ⟨z1, g2 z1⟩
                    clear g2 g3
                    have QL := Lib.hid (fun (w5 : World) (hb : Below wr.heap.size wr w5) => load_any 0 w.heap.size w5 _ h (Obs.move (Still.of_below (HBr.out.trans (hb.mono HBr.out.size))) HG.out) (Nat.le_trans HBr.out.size hb.size) HGG.out ⟨tx, nx⟩ d)
                    have QK := Lib.hid (fun (w5 : World) (hb : Below wr.heap.size wr w5) => load_any 0 w.heap.size w5 _ k (Obs.move (Still.of_below (HBr.out.trans (hb.mono HBr.out.size))) HK.out) (Nat.le_trans HBr.out.size hb.size) HGK.out ⟨tx, ny⟩ d)
                    rcases hcase with ⟨z1, rfl⟩ | ⟨rfl, rfl, rfl⟩ | ⟨rfl, z2, z3⟩
                    · have z4 : (tx == wRef) = false := by simpa using z1
                      clear z1
                      go_wp2_with fail
                      go_cut [15, 16] (fun vv ov wx => ∃ (g : Nat) (r : Vl) (ok : Bool), vv = .pointer (some ⟨g, 0, none⟩) ∧ ov = .bool ok ∧ wr.heap.size ≤ g ∧ Hid (FieldP h ⟨tx, nx⟩ d r ok) ∧ Hid (Mem.Own wx g 25 [str r.ty, i64 r.n]) ∧ Hid (Below wr.heap.size wr wx))
                      case first =>
                        rename_i J9 K9 hRJ hMK
                        go_region_law (go_simp; go_at_call 12; (first | ((with_reducible refine (QL.out _ (Below.refl _ _).drew).mono ?_); rintro e wq ⟨r, ok, rfl, hf, hb⟩; have HB6 := Lib.hid ((Below.refl _ _).drew.trans hb)) | ((with_reducible refine (QL.out _ ((up15 wr _).drew)).mono ?_); rintro e wq ⟨r, ok, rfl, hf, hb⟩; obtain ⟨ho6, b0, b1, b2, b3, b4, hb6⟩ := after_box hb; have HB6 := Lib.hid hb6; have HO6 := Lib.hid ho6; clear ho6 hb6)); have HF6 := Lib.hid hf; clear hf hb)
                        all_goals
                          refine hMK _ _ (hRJ _ _ ?_)
                          clear hMK hRJ
                          (repeat apply Exists.intro)
                          first
                            | exact ⟨⟨wr.heap.size, r, ok, rfl, rfl, Nat.le_refl _, HF6, Lib.hid ((HO6.out.store 0 _).store 1 _), Lib.hid ((HB6.out.setCell (p := ⟨wr.heap.size, 0, none⟩) (Nat.le_refl _) _).setCell (p := ⟨wr.heap.size, 1, none⟩) (Nat.le_refl _) _)⟩, rfl⟩
                            | exact ⟨⟨wq.heap.size, r, ok, rfl, rfl, HB6.out.size, HF6, Lib.hid (Own.made wq _ _), Lib.hid (HB6.out.alloc HB6.out.size _)⟩, rfl⟩
                      case rest =>
                      obtain ⟨g1, r1, ok1, rfl, rfl, hg1, HF1x, HO1x, HB1x⟩ := hcut
                      obtain ⟨w6, hw6⟩ : ∃ w6, w6 = wc := ⟨_, rfl⟩
                      subst hw6
                      clear p0 p1 p2 p3 p4 q0 q1 q2 q3 q4
                      have hyl := HYb.out.lt
                      obtain ⟨_, q0, q1, q2, q3, q4⟩ := box2 HYb.out HB1x.out
                      have md6 := (HB1x.out.cell (p := ⟨bw, ow + c, none⟩) ml).trans md
                      have ml6 := Nat.lt_of_lt_of_le ml HB1x.out.size
                      clear md
                      have QK6 := Lib.hid (fun (w5 : World) (hb : Below w6.heap.size w6 w5) => QK.out w5 (HB1x.out.trans (hb.mono HB1x.out.size)))
                      go_wp2_with fail
                      go_cut [17, 18] (fun vv ov wx => ∃ (g : Nat) (r : Vl) (ok : Bool), vv = .pointer (some ⟨g, 0, none⟩) ∧ ov = .bool ok ∧ w6.heap.size ≤ g ∧ Hid (FieldP k ⟨tx, nx⟩ d r ok) ∧ Hid (Mem.Own wx g 25 [str r.ty, i64 r.n]) ∧ Hid (Below w6.heap.size w6 wx))
                      case first =>
                        rename_i J9 K9 hRJ hMK
                        go_region_law (go_simp; go_at_call 12; (first | ((with_reducible refine (QK6.out _ (Below.refl _ _).drew).mono ?_); rintro e wq ⟨r, ok, rfl, hf, hb⟩; have HB6 := Lib.hid ((Below.refl _ _).drew.trans hb)) | ((with_reducible refine (QK6.out _ ((up15 w6 _).drew)).mono ?_); rintro e wq ⟨r, ok, rfl, hf, hb⟩; obtain ⟨ho6, b0, b1, b2, b3, b4, hb6⟩ := after_box hb; have HB6 := Lib.hid hb6; have HO6 := Lib.hid ho6; clear ho6 hb6)); have HF6 := Lib.hid hf; clear hf hb)
                        all_goals
                          refine hMK _ _ (hRJ _ _ ?_)
                          clear hMK hRJ
                          (repeat apply Exists.intro)
                          first
                            | exact ⟨⟨w6.heap.size, r, ok, rfl, rfl, Nat.le_refl _, HF6, Lib.hid ((HO6.out.store 0 _).store 1 _), Lib.hid ((HB6.out.setCell (p := ⟨w6.heap.size, 0, none⟩) (Nat.le_refl _) _).setCell (p := ⟨w6.heap.size, 1, none⟩) (Nat.le_refl _) _)⟩, rfl⟩
                            | exact ⟨⟨wq.heap.size, r, ok, rfl, rfl, HB6.out.size, HF6, Lib.hid (Own.made wq _ _), Lib.hid (HB6.out.alloc HB6.out.size _)⟩, rfl⟩
                      case rest =>
                      obtain ⟨g2, r2, ok2, rfl, rfl, hg2, HF2x, HO2x, HB2x⟩ := hcut
                      obtain ⟨w7, hw7⟩ : ∃ w7, w7 = wc := ⟨_, rfl⟩
                      subst hw7
                      obtain ⟨hok, hav⟩ := deep_next HP1.out HP2.out HV.out HF1x.out HF2x.out
                      subst hok
                      have HAVN := Lib.hid hav
                      have HB7 := Lib.hid (HB1x.out.trans (HB2x.out.mono HB1x.out.size))
                      have HO1y := Lib.hid (HO1x.out.below HB2x.out HO1x.out.lt)
                      have HXb7 := Lib.hid (HXb.out.below HB7.out HXb.out.lt)
                      have HYb7 := Lib.hid (HYb.out.below HB7.out HYb.out.lt)
                      have HXL := Lib.hid HXb.out.lt
                      have HYL := Lib.hid HYb.out.lt
                      clear q0 q1 q2 q3 q4 md6 ml6 hav
                      cases ok1 with
                      | false =>
                        go_wp2_with fail
                        go_ret
                        exact ⟨rfl, HBr.out.trans (HB7.out.mono HBr.out.size)⟩
                      | true =>
                        have HAVT := Lib.hid (HAVN.out rfl)
                        obtain ⟨_, p0, p1, p2, p3, p4⟩ := box2 HXb7.out (Below.refl _ _)
                        obtain ⟨_, q0, q1, q2, q3, q4⟩ := box2 HYb7.out (Below.refl _ _)
                        obtain ⟨_, s0, s1, _, _, _⟩ := box2 HO1y.out (Below.refl _ _)
                        obtain ⟨_, t0, t1, _, _, _⟩ := box2 HO2x.out (Below.refl _ _)
                        have n1 : ¬ g2 = w4.heap.size := by have := HB1x.out.size; have := HXL.out; omega
                        have n2 : ¬ w4.heap.size + 1 = w4.heap.size := by omega
                        have n3 : ¬ w4.heap.size = w4.heap.size + 1 := by omega
                        go_wp2_with fail
                        go_roundg (gk - 1)
                        case measure => omega
                        case rel => exact ⟨c + 1, r1, r2, by omega, by omega, by omega, by go_num, HAVT, Lib.hid (own_by (own_by ((HXb7.out.store 0 _).store 1 _) n3 _) n3 _), Lib.hid (((own_by (own_by HYb7.out n2 _) n2 _).store 0 _).store 1 _), Lib.hid (((((HBr.out.trans (HB7.out.mono HBr.out.size)).setCell (p := ⟨w4.heap.size, 0, none⟩) HWS.out _).setCell (p := ⟨w4.heap.size, 1, none⟩) HWS.out _).setCell (p := ⟨w4.heap.size + 1, 0, none⟩) (Nat.le_succ_of_le HWS.out) _).setCell (p := ⟨w4.heap.size + 1, 1, none⟩) (Nat.le_succ_of_le HWS.out) _)⟩
                    · go_wp2_with fail
                      go_cut [15, 16] (fun vv ov wx => ∃ (g : Nat) (r : Vl) (ok : Bool), vv = .pointer (some ⟨g, 0, none⟩) ∧ ov = .bool ok ∧ wr.heap.size ≤ g ∧ Hid (FieldP h ⟨wRef, 0⟩ d r ok) ∧ Hid (Mem.Own wx g 25 [str r.ty, i64 r.n]) ∧ Hid (Below wr.heap.size wr wx))
                      case first =>
                        rename_i J9 K9 hRJ hMK
                        go_region_law (go_simp; go_at_call 12; (first | ((with_reducible refine (QL.out _ (Below.refl _ _).drew).mono ?_); rintro e wq ⟨r, ok, rfl, hf, hb⟩; have HB6 := Lib.hid ((Below.refl _ _).drew.trans hb)) | ((with_reducible refine (QL.out _ ((up15 wr _).drew)).mono ?_); rintro e wq ⟨r, ok, rfl, hf, hb⟩; obtain ⟨ho6, b0, b1, b2, b3, b4, hb6⟩ := after_box hb; have HB6 := Lib.hid hb6; have HO6 := Lib.hid ho6; clear ho6 hb6)); have HF6 := Lib.hid hf; clear hf hb)
                        all_goals
                          refine hMK _ _ (hRJ _ _ ?_)
                          clear hMK hRJ
                          (repeat apply Exists.intro)
                          first
                            | exact ⟨⟨wr.heap.size, r, ok, rfl, rfl, Nat.le_refl _, HF6, Lib.hid ((HO6.out.store 0 _).store 1 _), Lib.hid ((HB6.out.setCell (p := ⟨wr.heap.size, 0, none⟩) (Nat.le_refl _) _).setCell (p := ⟨wr.heap.size, 1, none⟩) (Nat.le_refl _) _)⟩, rfl⟩
                            | exact ⟨⟨wq.heap.size, r, ok, rfl, rfl, HB6.out.size, HF6, Lib.hid (Own.made wq _ _), Lib.hid (HB6.out.alloc HB6.out.size _)⟩, rfl⟩
                      case rest =>
                      obtain ⟨g1, r1, ok1, rfl, rfl, hg1, HF1x, HO1x, HB1x⟩ := hcut
                      obtain ⟨w6, hw6⟩ : ∃ w6, w6 = wc := ⟨_, rfl⟩
                      subst hw6
                      clear p0 p1 p2 p3 p4 q0 q1 q2 q3 q4
                      have hyl := HYb.out.lt
                      obtain ⟨_, q0, q1, q2, q3, q4⟩ := box2 HYb.out HB1x.out
                      have md6 := (HB1x.out.cell (p := ⟨bw, ow + c, none⟩) ml).trans md
                      have ml6 := Nat.lt_of_lt_of_le ml HB1x.out.size
                      clear md
                      have QK6 := Lib.hid (fun (w5 : World) (hb : Below w6.heap.size w6 w5) => QK.out w5 (HB1x.out.trans (hb.mono HB1x.out.size)))
                      go_wp2_with fail
                      go_cut [17, 18] (fun vv ov wx => ∃ (g : Nat) (r : Vl) (ok : Bool), vv = .pointer (some ⟨g, 0, none⟩) ∧ ov = .bool ok ∧ w6.heap.size ≤ g ∧ Hid (FieldP k ⟨wRef, 0⟩ d r ok) ∧ Hid (Mem.Own wx g 25 [str r.ty, i64 r.n]) ∧ Hid (Below w6.heap.size w6 wx))
                      case first =>
                        rename_i J9 K9 hRJ hMK
                        go_region_law (go_simp; go_at_call 12; (first | ((with_reducible refine (QK6.out _ (Below.refl _ _).drew).mono ?_); rintro e wq ⟨r, ok, rfl, hf, hb⟩; have HB6 := Lib.hid ((Below.refl _ _).drew.trans hb)) | ((with_reducible refine (QK6.out _ ((up15 w6 _).drew)).mono ?_); rintro e wq ⟨r, ok, rfl, hf, hb⟩; obtain ⟨ho6, b0, b1, b2, b3, b4, hb6⟩ := after_box hb; have HB6 := Lib.hid hb6; have HO6 := Lib.hid ho6; clear ho6 hb6)); have HF6 := Lib.hid hf; clear hf hb)
                        all_goals
                          refine hMK _ _ (hRJ _ _ ?_)
                          clear hMK hRJ
                          (repeat apply Exists.intro)
                          first
                            | exact ⟨⟨w6.heap.size, r, ok, rfl, rfl, Nat.le_refl _, HF6, Lib.hid ((HO6.out.store 0 _).store 1 _), Lib.hid ((HB6.out.setCell (p := ⟨w6.heap.size, 0, none⟩) (Nat.le_refl _) _).setCell (p := ⟨w6.heap.size, 1, none⟩) (Nat.le_refl _) _)⟩, rfl⟩
                            | exact ⟨⟨wq.heap.size, r, ok, rfl, rfl, HB6.out.size, HF6, Lib.hid (Own.made wq _ _), Lib.hid (HB6.out.alloc HB6.out.size _)⟩, rfl⟩
                      case rest =>
                      obtain ⟨g2, r2, ok2, rfl, rfl, hg2, HF2x, HO2x, HB2x⟩ := hcut
                      obtain ⟨w7, hw7⟩ : ∃ w7, w7 = wc := ⟨_, rfl⟩
                      subst hw7
                      obtain ⟨hok, hav⟩ := deep_next HP1.out HP2.out HV.out HF1x.out HF2x.out
                      subst hok
                      have HAVN := Lib.hid hav
                      have HB7 := Lib.hid (HB1x.out.trans (HB2x.out.mono HB1x.out.size))
                      have HO1y := Lib.hid (HO1x.out.below HB2x.out HO1x.out.lt)
                      have HXb7 := Lib.hid (HXb.out.below HB7.out HXb.out.lt)
                      have HYb7 := Lib.hid (HYb.out.below HB7.out HYb.out.lt)
                      have HXL := Lib.hid HXb.out.lt
                      have HYL := Lib.hid HYb.out.lt
                      clear q0 q1 q2 q3 q4 md6 ml6 hav
                      cases ok1 with
                      | false =>
                        go_wp2_with fail
                        go_ret
                        exact ⟨rfl, HBr.out.trans (HB7.out.mono HBr.out.size)⟩
                      | true =>
                        have HAVT := Lib.hid (HAVN.out rfl)
                        obtain ⟨_, p0, p1, p2, p3, p4⟩ := box2 HXb7.out (Below.refl _ _)
                        obtain ⟨_, q0, q1, q2, q3, q4⟩ := box2 HYb7.out (Below.refl _ _)
                        obtain ⟨_, s0, s1, _, _, _⟩ := box2 HO1y.out (Below.refl _ _)
                        obtain ⟨_, t0, t1, _, _, _⟩ := box2 HO2x.out (Below.refl _ _)
                        have n1 : ¬ g2 = w4.heap.size := by have := HB1x.out.size; have := HXL.out; omega
                        have n2 : ¬ w4.heap.size + 1 = w4.heap.size := by omega
                        have n3 : ¬ w4.heap.size = w4.heap.size + 1 := by omega
                        go_wp2_with fail
                        go_roundg (gk - 1)
                        case measure => omega
                        case rel => exact ⟨c + 1, r1, r2, by omega, by omega, by omega, by go_num, HAVT, Lib.hid (own_by (own_by ((HXb7.out.store 0 _).store 1 _) n3 _) n3 _), Lib.hid (((own_by (own_by HYb7.out n2 _) n2 _).store 0 _).store 1 _), Lib.hid (((((HBr.out.trans (HB7.out.mono HBr.out.size)).setCell (p := ⟨w4.heap.size, 0, none⟩) HWS.out _).setCell (p := ⟨w4.heap.size, 1, none⟩) HWS.out _).setCell (p := ⟨w4.heap.size + 1, 0, none⟩) (Nat.le_succ_of_le HWS.out) _).setCell (p := ⟨w4.heap.size + 1, 1, none⟩) (Nat.le_succ_of_le HWS.out) _)⟩
                    · have z4 : (nx == 0) = false := by simpa using z2
                      have z5 : (ny == 0) = false := by simpa using z3
                      go_wp2_with fail
                      go_cut [15, 16] (fun vv ov wx => ∃ (g : Nat) (r : Vl) (ok : Bool), vv = .pointer (some ⟨g, 0, none⟩) ∧ ov = .bool ok ∧ wr.heap.size ≤ g ∧ Hid (FieldP h ⟨wRef, nx⟩ d r ok) ∧ Hid (Mem.Own wx g 25 [str r.ty, i64 r.n]) ∧ Hid (Below wr.heap.size wr wx))
                      case first =>
                        rename_i J9 K9 hRJ hMK
                        go_region_law (go_simp; go_at_call 12; (first | ((with_reducible refine (QL.out _ (Below.refl _ _).drew).mono ?_); rintro e wq ⟨r, ok, rfl, hf, hb⟩; have HB6 := Lib.hid ((Below.refl _ _).drew.trans hb)) | ((with_reducible refine (QL.out _ ((up15 wr _).drew)).mono ?_); rintro e wq ⟨r, ok, rfl, hf, hb⟩; obtain ⟨ho6, b0, b1, b2, b3, b4, hb6⟩ := after_box hb; have HB6 := Lib.hid hb6; have HO6 := Lib.hid ho6; clear ho6 hb6)); have HF6 := Lib.hid hf; clear hf hb)
                        all_goals
                          refine hMK _ _ (hRJ _ _ ?_)
                          clear hMK hRJ
                          (repeat apply Exists.intro)
                          first
                            | exact ⟨⟨wr.heap.size, r, ok, rfl, rfl, Nat.le_refl _, HF6, Lib.hid ((HO6.out.store 0 _).store 1 _), Lib.hid ((HB6.out.setCell (p := ⟨wr.heap.size, 0, none⟩) (Nat.le_refl _) _).setCell (p := ⟨wr.heap.size, 1, none⟩) (Nat.le_refl _) _)⟩, rfl⟩
                            | exact ⟨⟨wq.heap.size, r, ok, rfl, rfl, HB6.out.size, HF6, Lib.hid (Own.made wq _ _), Lib.hid (HB6.out.alloc HB6.out.size _)⟩, rfl⟩
                      case rest =>
                      obtain ⟨g1, r1, ok1, rfl, rfl, hg1, HF1x, HO1x, HB1x⟩ := hcut
                      obtain ⟨w6, hw6⟩ : ∃ w6, w6 = wc := ⟨_, rfl⟩
                      subst hw6
                      clear p0 p1 p2 p3 p4 q0 q1 q2 q3 q4
                      have hyl := HYb.out.lt
                      obtain ⟨_, q0, q1, q2, q3, q4⟩ := box2 HYb.out HB1x.out
                      have md6 := (HB1x.out.cell (p := ⟨bw, ow + c, none⟩) ml).trans md
                      have ml6 := Nat.lt_of_lt_of_le ml HB1x.out.size
                      clear md
                      have QK6 := Lib.hid (fun (w5 : World) (hb : Below w6.heap.size w6 w5) => QK.out w5 (HB1x.out.trans (hb.mono HB1x.out.size)))
                      go_wp2_with fail
                      go_cut [17, 18] (fun vv ov wx => ∃ (g : Nat) (r : Vl) (ok : Bool), vv = .pointer (some ⟨g, 0, none⟩) ∧ ov = .bool ok ∧ w6.heap.size ≤ g ∧ Hid (FieldP k ⟨wRef, ny⟩ d r ok) ∧ Hid (Mem.Own wx g 25 [str r.ty, i64 r.n]) ∧ Hid (Below w6.heap.size w6 wx))
                      case first =>
                        rename_i J9 K9 hRJ hMK
                        go_region_law (go_simp; go_at_call 12; (first | ((with_reducible refine (QK6.out _ (Below.refl _ _).drew).mono ?_); rintro e wq ⟨r, ok, rfl, hf, hb⟩; have HB6 := Lib.hid ((Below.refl _ _).drew.trans hb)) | ((with_reducible refine (QK6.out _ ((up15 w6 _).drew)).mono ?_); rintro e wq ⟨r, ok, rfl, hf, hb⟩; obtain ⟨ho6, b0, b1, b2, b3, b4, hb6⟩ := after_box hb; have HB6 := Lib.hid hb6; have HO6 := Lib.hid ho6; clear ho6 hb6)); have HF6 := Lib.hid hf; clear hf hb)
                        all_goals
                          refine hMK _ _ (hRJ _ _ ?_)
                          clear hMK hRJ
                          (repeat apply Exists.intro)
                          first
                            | exact ⟨⟨w6.heap.size, r, ok, rfl, rfl, Nat.le_refl _, HF6, Lib.hid ((HO6.out.store 0 _).store 1 _), Lib.hid ((HB6.out.setCell (p := ⟨w6.heap.size, 0, none⟩) (Nat.le_refl _) _).setCell (p := ⟨w6.heap.size, 1, none⟩) (Nat.le_refl _) _)⟩, rfl⟩
                            | exact ⟨⟨wq.heap.size, r, ok, rfl, rfl, HB6.out.size, HF6, Lib.hid (Own.made wq _ _), Lib.hid (HB6.out.alloc HB6.out.size _)⟩, rfl⟩
                      case rest =>
                      obtain ⟨g2, r2, ok2, rfl, rfl, hg2, HF2x, HO2x, HB2x⟩ := hcut
                      obtain ⟨w7, hw7⟩ : ∃ w7, w7 = wc := ⟨_, rfl⟩
                      subst hw7
                      obtain ⟨hok, hav⟩ := deep_next HP1.out HP2.out HV.out HF1x.out HF2x.out
                      subst hok
                      have HAVN := Lib.hid hav
                      have HB7 := Lib.hid (HB1x.out.trans (HB2x.out.mono HB1x.out.size))
                      have HO1y := Lib.hid (HO1x.out.below HB2x.out HO1x.out.lt)
                      have HXb7 := Lib.hid (HXb.out.below HB7.out HXb.out.lt)
                      have HYb7 := Lib.hid (HYb.out.below HB7.out HYb.out.lt)
                      have HXL := Lib.hid HXb.out.lt
                      have HYL := Lib.hid HYb.out.lt
                      clear q0 q1 q2 q3 q4 md6 ml6 hav
                      cases ok1 with
                      | false =>
                        go_wp2_with fail
                        go_ret
                        exact ⟨rfl, HBr.out.trans (HB7.out.mono HBr.out.size)⟩
                      | true =>
                        have HAVT := Lib.hid (HAVN.out rfl)
                        obtain ⟨_, p0, p1, p2, p3, p4⟩ := box2 HXb7.out (Below.refl _ _)
                        obtain ⟨_, q0, q1, q2, q3, q4⟩ := box2 HYb7.out (Below.refl _ _)
                        obtain ⟨_, s0, s1, _, _, _⟩ := box2 HO1y.out (Below.refl _ _)
                        obtain ⟨_, t0, t1, _, _, _⟩ := box2 HO2x.out (Below.refl _ _)
                        have n1 : ¬ g2 = w4.heap.size := by have := HB1x.out.size; have := HXL.out; omega
                        have n2 : ¬ w4.heap.size + 1 = w4.heap.size := by omega
                        have n3 : ¬ w4.heap.size = w4.heap.size + 1 := by omega
                        go_wp2_with fail
                        go_roundg (gk - 1)
                        case measure => omega
                        case rel => exact ⟨c + 1, r1, r2, by omega, by omega, by omega, by go_num, HAVT, Lib.hid (own_by (own_by ((HXb7.out.store 0 _).store 1 _) n3 _) n3 _), Lib.hid (((own_by (own_by HYb7.out n2 _) n2 _).store 0 _).store 1 _), Lib.hid (((((HBr.out.trans (HB7.out.mono HBr.out.size)).setCell (p := ⟨w4.heap.size, 0, none⟩) HWS.out _).setCell (p := ⟨w4.heap.size, 1, none⟩) HWS.out _).setCell (p := ⟨w4.heap.size + 1, 0, none⟩) (Nat.le_succ_of_le HWS.out) _).setCell (p := ⟨w4.heap.size + 1, 1, none⟩) (Nat.le_succ_of_le HWS.out) _)⟩
                  · go_wp2_with fail
                    go_ret
                    exact ⟨rfl, HBr.out⟩
          · have e1 : decide ((50 : Int) < (a.length : Int)) = false := decide_eq_false (by omega)
            have e2 : decide ((50 : Int) < (b.length : Int)) = false := decide_eq_false (by omega)
            have e3 : decide ((100 : Int) < (way.length : Int)) = true := decide_eq_true (by omega)
            go_wp2_with fail
            refine (L15.awake_any w3).mono ?_
            rintro e wz ⟨rfl, hbz⟩
            have HZ := Lib.hid (HX3.out.trans (hbz.mono HX3.out.size))
            clear hbz
            go_wp2_with fail
            go_ret
            exact ⟨rfl, HZ.out⟩
        · have e1 : decide ((50 : Int) < (a.length : Int)) = false := decide_eq_false (by omega)
          have e2 : decide ((50 : Int) < (b.length : Int)) = true := decide_eq_true (by omega)
          go_wp2_with fail
          refine (L15.awake_any w3).mono ?_
          rintro e wz ⟨rfl, hbz⟩
          have HZ := Lib.hid (HX3.out.trans (hbz.mono HX3.out.size))
          clear hbz
          go_wp2_with fail
          go_ret
          exact ⟨rfl, HZ.out⟩
      · have e1 : decide ((50 : Int) < (a.length : Int)) = true := decide_eq_true (by omega)
        go_wp2_with fail
        refine (L15.awake_any w3).mono ?_
        rintro e wz ⟨rfl, hbz⟩
        have HZ := Lib.hid (HX3.out.trans (hbz.mono HX3.out.size))
        clear hbz
        go_wp2_with fail
        go_ret
        exact ⟨rfl, HZ.out⟩

set_option maxRecDepth 100000 in
theorem lifted (os : Os) (started : os.Started) (H : Type) (enc : TypeId × Value → H) :
    ReturnsInHanded {} Try.checked os 5 .any (Rows.heapDeepSpec.pre6 enc Try.prog Try.f5 Rows.heapDeepRow.domain false) (Rows.heapDeepSpec.post enc Try.prog Try.f5 false true false false) := by
  refine returnsInHanded_of_change_sized (C := Try.checked) (by kernel_rfl) started (by kernel_rfl) Try.func5
    (ChangeSpec.witness6 (enc := enc) (C := Try.checked) false ⟨#[], #[.slice none 0 0, .slice none 0 0, .slice none 0 0, .slice none 0 0, .slice none 0 0], []⟩ 8 (by kernel_rfl) (by kernel_rfl) (by kernel_rfl) (by kernel_rfl)) ?_
  intro W base args ds gs before hval0 hW hcnd hsz0 _
  have hval : ∀ (j : Nat) t v, Try.f5.params[j]? = some t → args[j]? = some v → Value.okWide Try.prog W .any base t v := hval0
  have hW' := hW
  obtain ⟨p, q, hA0, hV, rfl, hfz, hnd⟩ := hW
  have hsz : (DataW.weightsEach Try.prog (Try.f5.params.toList ++ Rows.heapDeepSpec.plain.varTypes Try.prog) (ds ++ gs)).all (· ≤ reachBytes) = true := hsz0
  have hA : DataW.TrodAll enc Try.prog W 0 (fun _ => true) true Try.f5.params.toList args.toList ds p := hA0
  rw [Try.params5] at hA hval hsz
  obtain ⟨v0, vs0, d0, ds0, p0, q0, hargs, rfl, rfl, h0, r0⟩ := trodAll_cons hA
  obtain ⟨v1, vs1, d1, ds1, p1, q1, rfl, rfl, rfl, h1, r1⟩ := trodAll_cons r0
  obtain ⟨v2, vs2, d2, ds2, p2, q2, rfl, rfl, rfl, h2, r2⟩ := trodAll_cons r1
  obtain ⟨v3, vs3, d3, ds3, p3, q3, rfl, rfl, rfl, h3, r3⟩ := trodAll_cons r2
  obtain ⟨v4, vs4, d4, ds4, p4, q4, rfl, rfl, rfl, h4, r4⟩ := trodAll_cons r3
  obtain ⟨rfl, rfl, rfl⟩ := trodAll_nil r4
  obtain rfl : args = #[v0, v1, v2, v3, v4] := by cases args; simp_all
  obtain ⟨rfl, rfl⟩ := trodVars_none hV
  obtain ⟨xs0, hG0⟩ := OpenH.open_heap hsz (j := 0) rfl rfl (hval 0 22 v0 rfl rfl) h0
  obtain ⟨xs1, hG1⟩ := OpenH.open_vals hsz (j := 1) rfl rfl (hval 1 23 v1 rfl rfl) h1
  obtain ⟨xs2, hG2⟩ := OpenH.open_heap hsz (j := 2) rfl rfl (hval 2 22 v2 rfl rfl) h2
  obtain ⟨xs3, hG3⟩ := OpenH.open_vals hsz (j := 3) rfl rfl (hval 3 23 v3 rfl rfl) h3
  obtain ⟨xs4, hG4⟩ := OpenI.open_ints hsz (j := 4) rfl rfl (hval 4 44 v4 rfl rfl) h4
  clear hA0 hval0
  simp only [List.append_nil] at hW'
  refine (walk v0 xs0 v1 xs1 v2 xs2 v3 xs3 v4 xs4 hG0 hG1 hG2 hG3 hG4).mono fun e W' ⟨he, hg⟩ => ?_
  subst he
  exact ⟨_, rfl, Shell.lawPost (by kernel_rfl) rfl (by kernel_rfl) rfl Try.underlying4 hW' rfl hg⟩

/-- The statement. -/
theorem proved : Rows.HeapDeepSaid :=
  OpenClaim.holds_of_wide 5 Try.f5 rfl rfl rfl rfl rfl rfl rfl ⟨rfl, rfl, rfl, rfl, rfl⟩ rfl rfl rfl rfl rfl (by kernel_rfl) Try.func5 (by kernel_rfl)
    (of_decide_eq_true (by kernel_rfl)) (by unfold Func.isWrapper; first | (rw [if_pos (by decide +kernel)]; kernel_rfl) | (rw [if_neg (by decide +kernel)]; exact ⟨rfl, rfl⟩))
    (fun os started H enc _ => lifted os started H enc)
end Go.Proofs.Ytnkcpbfbehciaaa.heapDeep
