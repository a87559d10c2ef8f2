/-
  Layer 10: package dom walked: Nearest.
-/
import Derived.Test.YtiohngbmddfgfaaDomS
namespace Go.Proofs.Ytiohngbmddfgfaa.Dm10
open Go.RowKit Api Mem Fl9

theorem of_led {g : List (List Int)} {near : List Int} {i N q : Nat} (h : St g near i N) (hq : Come g q) : Of9 near (pv g g.length q) = Led g near q := by
  funext p
  refine propext ⟨fun ⟨h1, h2⟩ => ?_, fun ⟨h1, h2, h3⟩ => ⟨pv_mem h2.last.1 h1, h3⟩⟩
  obtain ⟨p2, e, hl, h3⟩ := pv_lt h1
  obtain rfl : p = p2 := by omega
  exact ⟨h3, h.come hq h2, h2⟩
theorem AllI.top {g : List (List Int)} {near gone : List Int} {turn r : Int} {N q : Nat} (h : St g near (pos g q) N) (hq : Come g q) (hq0 : q ≠ 0) (ha : AllI g near gone turn (pv g g.length q) r) : ∃ m : Nat, r = (m : Int) ∧ Top near (Led g near q) m ∧ Kn near m ∧ Come g m := by
  obtain ⟨p, hp, _⟩ := h.led hq hq0
  rw [← of_led h hq] at hp
  rcases ha.one with h1 | ⟨m, h1⟩
  · exact absurd hp ((ha.non h1).1 p)
  · obtain ⟨h2, h3, h4, _⟩ := ha.som m h1
    exact ⟨m, h1, by rw [← of_led h hq]; exact h2, h4, h3⟩
theorem row_below {w w' : World} {base n : Nat} {v : Value} {l : List Int} (h : w.ownsRow base 3 1 v n (iC l)) (hb : Below w.heap.size w w') : w'.ownsRow base 3 1 v n (iC l) := Hold.Rec.on.below (r := ⟨3, 1, v, n, iC l⟩) h hb
/-- ways up lead to points that stand ahead. -/
def Ups9 (g : List (List Int)) (near : List Int) : Prop := ∀ b c : Nat, near[b]? = some (c : Int) → Come g b ∧ b ≠ 0 ∧ Come g c ∧ pos g c < pos g b
/-- what Nearest answers. -/
def NearF (g : List (List Int)) (w : World) (e : Ending) (w' : World) : Prop := ∃ v, e = .returned v ∧ w'.ownsRow w.heap.size 3 1 v g.length (iC (nearestV g)) ∧ Below w.heap.size w w' ∧ Fix g (nearestV g) ∧ Ups9 g (nearestV g)
def b2n (b : Bool) : Nat := if b then 1 else 0
set_option maxRecDepth 100000 in
set_option maxHeartbeats 16000000 in
theorem near_any (lo hi : Nat) (w : World) (v : Value) (g : List (List Int)) (hg : Graph lo hi w v g) (hh : hi ≤ w.heap.size) (hn : g.length ≤ 1000) :
    Calls Try.prog 28 #[v] w (NearF g w) := by
  have QO := Lib.hid (order_any lo hi w v g hg hh hn)
  have HG := Lib.hid hg
  obtain ⟨A1, k1, rfl⟩ := Row.form hg
  clear hg
  go_enter Try.func28, Try.ntmps28
  go_wp2_with fail
  refine QO.out.mono ?_
  rintro e w1 ⟨vo, rfl, oo, hb1⟩
  have HO1 := Lib.hid oo
  have HB1 := Lib.hid hb1
  have QP := Lib.hid (preds_any lo hi w1 _ g (Graph.move (Still.of_below (hb1.mono hh)) HG.out) (Nat.le_trans hh hb1.size) hn)
  clear oo hb1
  go_wp2_with fail
  refine QP.out.mono ?_
  rintro e w2 ⟨vp, rfl, op, hb2⟩
  have hol := order_len g
  have HOI := Lib.hid (ints_own (l := orderV g) (hi := w2.heap.size) (row_below HO1.out hb2) (Nat.le_refl _) (by omega))
  have HPG := Lib.hid (op.graph (hi := w2.heap.size) (Nat.le_refl _) (by rw [preds_len]; omega) (fun l hl => by have := preds_short g l hl; omega))
  have HB2 := Lib.hid (HB1.out.trans (hb2.mono HB1.out.size))
  obtain ⟨Ap, cp, hvp⟩ := op.form
  rw [preds_len] at hvp
  subst hvp
  obtain ⟨Ao, co, rfl⟩ := Row.form HOI.out
  have QS := Lib.hid (start_any g _ _ w2 hn _ HOI.out (Nat.le_refl _))
  clear op hb2 HO1
  go_wp2_with fail
  refine QS.out.mono ?_
  rintro e w3 ⟨bn, bp, bg, bt, place, rfl, ht3, hpl, hb3⟩
  have HO3 := Lib.hid ht3
  have HB3 := Lib.hid hb3
  have HPL := Lib.hid hpl
  have hs2 := HB2.out.size
  have HPT := Lib.hid (show ∀ (i : Nat) (x : Int), (orderV g)[i]? = some x → ∃ q : Nat, x = (q : Int) ∧ Come g q ∧ pos g q = i from fun i x h => by
    obtain ⟨q, e, _, h2⟩ := ord_point (List.mem_of_getElem? h)
    subst e
    exact ⟨q, rfl, h2, pos_of h⟩)
  obtain ⟨ol, hole⟩ : ∃ ol, (orderV g).length = ol := ⟨_, rfl⟩
  have HST := Lib.hid (st_start (g := g))
  have hms := mass_start g
  have hgg : g.length * g.length ≤ 1000000 := Nat.mul_le_mul hn hn
  obtain ⟨m0, hm0⟩ : ∃ m0, mass g (List.replicate g.length (-1)) = m0 := ⟨_, rfl⟩
  rw [hm0] at hms
  have hm1 : m0 ≤ 1000000 := by omega
  have HM0 := Lib.hid hm0
  clear ht3 hb3 hpl hms hgg hm0
  go_wp2_with fail
  go_loopg [6] (2 * m0 + 1) (fun k vc wr => ∃ (ch : Bool) (near gone : List Int) (turn : Int) (N : Nat), vc = .bool ch ∧ 2 * mass g near + b2n ch ≤ k ∧ 0 ≤ turn ∧ turn + 1001 * (k : Int) ≤ 2002003001 ∧ Hid ((ch = true ∧ St g near 0 N) ∨ (ch = false ∧ St g near (orderV g).length N ∧ Still9 g near (orderV g).length)) ∧ Hid (TO wr w2.heap.size bn bp bg bt g.length near place gone turn) ∧ Hid (∀ (k : Nat) (v : Int), gone[k]? = some v → v ≤ turn) ∧ Hid (Below w2.heap.size w2 wr))
  case atStart => exact ⟨true, _, _, 0, 1, rfl, by rw [HM0.out]; simp [b2n], by omega, by omega, Lib.hid (.inl ⟨rfl, HST.out⟩), HO3, Lib.hid (fun k v hk => by rw [List.getElem?_replicate] at hk; split at hk <;> simp at hk; omega), HB3⟩
  case round =>
  obtain ⟨ch, near, gone, turn, N, rfl, hmk, ht0, ht1, HS, HO, HLE, HB⟩ := hrel
  obtain ⟨ms, hms⟩ : ∃ ms, mass g near = ms := ⟨_, rfl⟩
  rw [hms] at hmk
  have HMS := Lib.hid hms
  clear hms
  cases ch with
  | false =>
    have c0 := HO.out.ot.cell 0
    simp only [List.getElem?_cons_zero] at c0
    go_wp2_with fail
    go_ret
    obtain ⟨_, h1, h2⟩ := HS.out.resolve_left (fun h => by cases h.1)
    have hff := h1.fix h2
    have hup : Ups9 g near := fun b c e => ⟨(h1.at9 e).2.1, (h1.at9 e).1, (h1.at9 e).2.2.1, h1.ups.lt b c (h1.at9 e).1 e⟩
    have hfix := hff.best
    refine ⟨_, rfl, ?_, HB2.out.trans (HB.out.mono hs2), by rw [← hfix]; exact hff, by rw [← hfix]; exact hup⟩
    have hrow := HO.out.on.row (base := w.heap.size) (n := g.length) (cap := g.length) (ys := iC near) (Nat.le_trans hs2 HO.out.base_n) (Nat.le_refl _) (by unfold maxLen; omega) (by simp [HO.out.ln]) (List.take_of_length_le (by simp [HO.out.ln]))
    rw [← hfix]
    exact hrow
  | true =>
    have HS0 := Lib.hid ((HS.out.resolve_right (fun h => by cases h.1)).2)
    have hmk2 : 2 * ms + 1 ≤ _ := hmk
    clear hmk HS
    go_wp2_with fail
    go_loopw [6, 21] (fun vc vj wr => ∃ (j : Nat) (ch : Bool) (near gone : List Int) (tn : Int) (N : Nat), vj = .int .i64 j ∧ vc = .bool ch ∧ j ≤ (orderV g).length ∧ turn ≤ tn ∧ tn ≤ turn + j ∧ mass g near + b2n ch ≤ ms ∧ Hid (St g near j N) ∧ Hid (ch = false → Still9 g near j) ∧ Hid (TO wr w2.heap.size bn bp bg bt g.length near place gone tn) ∧ Hid (∀ (k : Nat) (v : Int), gone[k]? = some v → v ≤ tn) ∧ Hid (Below w2.heap.size w2 wr)) (fun _ vj _ => (orderV g).length - (intOf vj).toNat)
    case atStart => exact ⟨0, false, near, gone, turn, N, rfl, rfl, Nat.zero_le _, by omega, by omega, by rw [HMS.out]; simp [b2n], HS0, Lib.hid (fun _ k c e hl => by omega), HO, HLE, HB⟩
    case round =>
    obtain ⟨j, ch, near, gone, tn, N, rfl, rfl, hj, htn, htn2, hmj, HS, HQ, HO, HLE, HB⟩ := hrel
    by_cases hlt : j < (orderV g).length
    · obtain ⟨x, hx⟩ : ∃ x, (orderV g)[j]? = some x := ⟨_, List.getElem?_eq_getElem hlt⟩
      obtain ⟨b1, o1, rfl⟩ := addr_of9 HOI.out (by omega)
      obtain ⟨cs, _, rfl, n1⟩ := cell_of HOI.out hx HB.out
      have m1 := n1 _ rfl
      obtain ⟨q, rfl, hqc, hqp⟩ := HPT.out j x hx
      have hql := hqc.last.1
      have HQC := Lib.hid hqc
      have HQP := Lib.hid hqp
      clear n1 hx hqc hqp
      by_cases hq0 : q = 0
      · subst hq0
        have hj0 : j = 0 := by have := HQP.out; rw [pos_zero (by omega)] at this; omega
        subst hj0
        rw [Nat.add_zero] at m1
        have HS2 := Lib.hid HS.out.zero
        have HQ2 := Lib.hid (show ch = false → Still9 g near 1 from fun _ => still_zero HS.out)
        go_wp2_with fail
        go_roundw
        case rel => exact ⟨1, ch, near, gone, tn, N, by go_num, rfl, by omega, by omega, by omega, hmj, HS2, HQ2, HO, HLE, HB⟩
        case measure => simp [intOf]; omega
      · have e0 : ((q : Int) == 0) = false := by rw [beq_eq_false_iff_ne]; omega
        obtain ⟨b2, o2, rfl⟩ := addr_of9 HPG.out (by rw [← preds_len g] at hql; omega)
        obtain ⟨c2, _, ⟨u2, rfl, kx⟩, n2⟩ := cell_of HPG.out (preds_at hql) HB.out
        have m2 := n2 _ rfl
        obtain ⟨A3, k3, rfl⟩ := Row.form kx
        have HS' := HS.out
        rw [← HQP.out] at HS'
        have QM := Lib.hid (meetAll_any g wr w2.heap.size bn bp bg bt g.length near place gone tn _ N HS' HO.out hn rfl HPL.out HLE.out (by omega) (by omega) _ _ _ (pv g g.length q) (Ints.move (Still.of_below HB.out) kx) (Nat.le_refl _) (fun x hx => by obtain ⟨p, e, hp, _⟩ := pv_lt hx; exact ⟨p, e, hp⟩))
        have HSQ := Lib.hid HS'
        clear n2 kx HS'
        go_wp2_with fail
        refine QM.out.mono ?_
        rintro e w6 ⟨r, gone6, rfl, h6, hb6, hm6, hle6⟩
        obtain ⟨m, rfl, htop, hkm, hcm⟩ := hm6.top HSQ.out HQC.out hq0
        have HO6 := Lib.hid h6
        have HB6 := Lib.hid (HB.out.trans hb6)
        have HLE6 := Lib.hid hle6
        have HTOP := Lib.hid htop
        have HKM := Lib.hid hkm
        have c0 := h6.ot.cell 0
        simp only [List.getElem?_cons_zero] at c0
        obtain ⟨y, hy⟩ : ∃ y, near[q]? = some y := ⟨_, List.getElem?_eq_getElem (by rw [h6.ln]; exact hql)⟩
        have c4 := own_at h6.on hy
        have t4 := h6.on.thaw q
        have HY := Lib.hid hy
        clear h6 hb6 hm6 hle6 htop hkm hcm hy
        by_cases hym : y = (m : Int)
        · subst hym
          have HS2 := Lib.hid (HSQ.out.same HQC.out hq0 HTOP.out HY.out)
          have HQ2 := Lib.hid (show ch = false → Still9 g near (pos g q + 1) from fun h => by
            have h1 := HQ.out h
            rw [← HQP.out] at h1
            exact h1.same HSQ.out HQC.out HTOP.out HY.out)
          rw [HQP.out] at HS2 HQ2
          go_wp2_with fail
          go_roundw
          case rel => exact ⟨j + 1, ch, near, gone6, tn + 1, N, by go_num, rfl, by omega, by omega, by omega, hmj, HS2, HQ2, HO6, HLE6, HB6⟩
          case measure => simp [intOf]; omega
        · have e1 : ((m : Int) == y) = false := by rw [beq_eq_false_iff_ne]; exact fun e => hym e.symm
          have e1n : ((m : Int) != y) = true := by rw [bne, e1]; rfl
          have HS2 := Lib.hid (HSQ.out.put HQC.out hq0 HTOP.out HKM.out)
          have hmp := mass_put HSQ.out HQC.out hq0 HTOP.out HKM.out (by rw [HY.out]; simpa using hym)
          rw [HQP.out] at HS2
          have HO7 := Lib.hid (HO6.out.putNear q (m : Int))
          have HB7 := Lib.hid (HB6.out.setCell (p := ⟨bn, q, none⟩) HO6.out.base_n (i64 (m : Int)))
          have hm8 : mass g (near.set q (m : Int)) + b2n true ≤ ms := by
            show _ + 1 ≤ ms
            omega
          clear hym hmp
          go_wp2_with fail
          go_roundw
          case rel => exact ⟨j + 1, true, _, gone6, tn + 1, _, by go_num, rfl, by omega, by omega, by omega, hm8, HS2, Lib.hid (fun h => by cases h), HO7, HLE6, HB7⟩
          case measure => simp [intOf]; omega
    · have hje : j = (orderV g).length := by omega
      subst hje
      go_wp2_with fail
      go_roundg (2 * mass g near + b2n ch)
      case measure => cases ch <;> simp [b2n] at hmj ⊢ <;> omega
      case rel => exact ⟨ch, near, gone, tn, N, rfl, Nat.le_refl _, by omega, by cases ch <;> simp [b2n] at hmj ⊢ <;> omega, Lib.hid (by cases ch with
        | true => exact .inl ⟨rfl, HS.out.again⟩
        | false => exact .inr ⟨rfl, HS.out, HQ.out rfl⟩), HO, HLE, HB⟩
end Go.Proofs.Ytiohngbmddfgfaa.Dm10
