/-
  Layer 11: package loops' Crossed.
-/
import Derived.Test.YtiohngbmddfgfaaLpAll
namespace Go.Proofs.Ytiohngbmddfgfaa.Lp11
open Go.RowKit Api Mem Fl9 Dm10

/-- a step against the order that isn't one back. -/
def Odd (g : List (List Int)) (to at9 : Nat) : Prop := Come g at9 ∧ (to : Int) ∈ g.getD at9 [] ∧ to < g.length ∧ pos g to ≤ pos g at9 ∧ ¬ Dom g to at9
theorem cross_odd {g : List (List Int)} : crossV g = true ↔ ∃ to at9, Odd g to at9 := by
  rw [cross_iff]
  constructor
  · intro hc
    refine Classical.byContradiction fun hno => ?_
    have rise : ∀ {a b : Nat}, Rd (Fw g) a b → pos g a < pos g b := by
      intro a b h
      have one : ∀ {x y : Nat}, Fw g x y → pos g x < pos g y := fun {x y} hf => by
        rcases Nat.lt_or_ge (pos g x) (pos g y) with k | k
        · exact k
        · exact absurd ⟨y, x, hf.1.1, hf.2.1, hf.1.2.last.1, k, hf.2.2⟩ hno
      induction h with
      | one h => exact one h
      | more _ h ih => exact Nat.lt_trans ih (one h)
    obtain ⟨i, hi⟩ := hc
    have := rise hi
    omega
  · rintro ⟨to, at9, h1, h2, h3, h4, h5⟩
    refine Classical.byContradiction fun hno => ?_
    exact h5 (retreat (fun i hi => hno ⟨i, hi⟩) h1 (.step h1 h2 h3 trivial) h2 h4)
/-- the places of the first k of the order are laid. -/
structure Pl (g : List (List Int)) (k : Nat) (pl : List Int) : Prop where
  len : pl.length = g.length
  at9 : ∀ q : Nat, Come g q → pos g q < k → pl[q]? = some (pos g q : Int)
theorem Pl.start (g : List (List Int)) : Pl g 0 (List.replicate g.length (-1)) := ⟨by simp, fun q _ h => by omega⟩
theorem Pl.step {g : List (List Int)} {k q : Nat} {pl : List Int} (h : Pl g k pl) (hq : (orderV g)[k]? = some (q : Int)) : q < g.length ∧ Pl g (k + 1) (pl.set q (k : Int)) := by
  have hc : Come g q := ord_mem.1 (List.mem_of_getElem? hq)
  have hp := pos_of hq
  refine ⟨hc.last.1, by simp [h.len], fun r hr hlt => ?_⟩
  by_cases e : q = r
  · subst e
    rw [List.getElem?_set_self (by rw [h.len]; exact hc.last.1), hp]
  · rw [List.getElem?_set_ne e]
    refine h.at9 r hr ?_
    have : pos g r ≠ pos g q := fun e2 => e (pos_inj hc hr e2.symm)
    omega
set_option maxRecDepth 100000 in
set_option maxHeartbeats 8000000 in
theorem lcross_any (lo hi : Nat) (w : World) (v : Value) (g : List (List Int)) (hg : Graph lo hi w v g) (hh : hi ≤ w.heap.size) (hn : g.length ≤ 1000) :
    Calls Try.prog 11 #[v] w fun e w' => e = .returned (.bool (crossV g)) ∧ Below w.heap.size w w' := by
  obtain ⟨A1, k1, rfl⟩ := Row.form hg
  have HG := Lib.hid hg
  have QF := Lib.hid (fill_any w g.length (-1) hn)
  clear hg
  go_enter Try.func11, Try.ntmps11
  go_wp2_with fail
  refine QF.out.mono ?_
  rintro e w1 ⟨vp, rfl, hop, hb1⟩
  obtain ⟨Ap, cp, rfl⟩ := any9 hop
  have HOP := Lib.hid hop
  have HB1 := Lib.hid hb1
  have hs1 := hb1.size
  have QO := Lib.hid (order_any lo hi w1 _ g (Graph.move (Still.of_below (hb1.mono hh)) HG.out) (Nat.le_trans hh hs1) hn)
  clear hop hb1
  go_wp2_with fail
  refine QO.out.mono ?_
  rintro e w2 ⟨vo, rfl, hoo, hb2⟩
  obtain ⟨Ao, co, rfl⟩ := any9 hoo
  have HAP := Lib.hid ((one_apart (r := rowN (.slice Ap g.length cp) g.length (List.replicate g.length (-1))) HOP.out).join hb2 (one_apart (r := innR (.slice Ao (orderV g).length co) (orderV g)) hoo) hs1)
  have HAP2 := Lib.hid (HAP.out.perm (List.Perm.swap _ _ _))
  have HB2 := Lib.hid (HB1.out.trans (hb2.mono hs1))
  have HP0 := Lib.hid (Pl.start g)
  have hol := order_len g
  clear hoo hb2
  go_wp2_with fail
  go_loopw [17] (fun kv wr => ∃ (k : Nat) (pl : List Int), k ≤ (orderV g).length ∧ kv = .int .i64 k ∧ Hid (Pl g k pl) ∧ Hid (Hold.Apart wr w.heap.size [rowN (.slice Ap g.length cp) g.length pl, innR (.slice Ao (orderV g).length co) (orderV g)]) ∧ Hid (Below w.heap.size w wr)) (fun kv _ => (orderV g).length - (intOf kv).toNat)
  case atStart => exact ⟨0, _, Nat.zero_le _, rfl, HP0, HAP2, HB2⟩
  case round =>
  obtain ⟨k, pl, hk, rfl, HP, HA, HBr⟩ := hrel
  by_cases hlt : k < (orderV g).length
  · have h0 : g.length ≠ 0 := by omega
    obtain ⟨q, hq⟩ : ∃ q : Nat, (orderV g)[k]? = some (q : Int) := by
      obtain ⟨y, hy⟩ : ∃ y, (orderV g)[k]? = some y := ⟨_, List.getElem?_eq_getElem hlt⟩
      obtain ⟨q, e, _⟩ := (ord_ok h0).point y (List.mem_of_getElem? hy)
      exact ⟨q, by rw [hy, e]⟩
    obtain ⟨hql, hps⟩ := HP.out.step hq
    have HPS := Lib.hid hps
    obtain ⟨gP, cP, eP, hP1, hP2, _⟩ := form9 HA.out.head (by show 0 < g.length; omega)
    simp only [Value.slice.injEq, true_and] at eP
    obtain ⟨rfl, rfl⟩ := eP
    have hao := HA.out.perm (List.Perm.swap _ _ _)
    obtain ⟨gO, cO, eO, hO1, hO2, _⟩ := form9 hao.head (by show 0 < (orderV g).length; omega)
    simp only [Value.slice.injEq, true_and] at eO
    obtain ⟨rfl, rfl⟩ := eO
    have c1 := Hold.Rec.on.cell hao.head rfl (j := k) (u := i64 (q : Int)) (by rw [List.getElem?_map, hq]; rfl)
    obtain ⟨y, hy⟩ : ∃ y, pl[q]? = some y := ⟨_, List.getElem?_eq_getElem (by rw [HP.out.len]; exact hql)⟩
    have c2 := Hold.Rec.on.cell HA.out.head rfl (j := q) (u := i64 y) (by rw [List.getElem?_map, hy]; rfl)
    have c2t := Hold.Rec.on.thaw HA.out.head rfl q
    have HA2 := Lib.hid (show Hold.Apart (wr.setCell ⟨gP, q, none⟩ (i64 (k : Int))) w.heap.size [rowN (.slice (some ⟨gP, 0, none⟩) g.length cp) g.length (pl.set q (k : Int)), innR (.slice (some ⟨gO, 0, none⟩) (orderV g).length co) (orderV g)] by
      have := HA.out.store (q := q) (u := i64 (k : Int)) rfl
      simpa [rowN, iC, List.map_set] using this)
    have HB3 := Lib.hid (HBr.out.setCell (p := ⟨gP, q, none⟩) hP1 (i64 (k : Int)))
    clear hao hq hps hy
    go_wp2_with fail
    go_roundw
    case rel => exact ⟨k + 1, _, by omega, by go_num, HPS, HA2, HB3⟩
    case measure => simp [intOf]; omega
  · have hke : k = (orderV g).length := by omega
    have hrs := HBr.out.size
    have HPL := Lib.hid (show ∀ q : Nat, Come g q → pl[q]? = some (pos g q : Int) from fun q hq => HP.out.at9 q hq (by rw [hke]; exact pos_lt hq))
    have hpl := HP.out.len
    have HPI := Lib.hid (ints_own (hi := wr.heap.size) (l := pl) (by have := HA.out.head; unfold Hold.Rec.on at this; rw [hpl]; exact this) (Nat.le_refl _) (by rw [hpl]; omega))
    have QL := Lib.hid (overlook_any lo hi wr _ g (Graph.move (Still.of_below (HBr.out.mono hh)) HG.out) (Nat.le_trans hh hrs) hn)
    have HPLN := Lib.hid hpl
    clear hke hpl
    go_wp2_with fail
    refine QL.out.mono ?_
    rintro e w3 ⟨vf, vl, fi, la, rfl, hap3, hvw, hb3⟩
    have HB3 := Lib.hid (HBr.out.trans (hb3.mono hrs))
    have hs3 := hb3.size
    have HV := Lib.hid hvw
    have HVF := Lib.hid (ints_own (hi := w3.heap.size) (l := fi) (by have := hap3.head; unfold Hold.Rec.on at this; rw [hvw.fl]; exact this) (Nat.le_refl _) (by rw [hvw.fl]; omega))
    have HVL := Lib.hid (ints_own (hi := w3.heap.size) (l := la) (by have := (hap3.perm (List.Perm.swap _ _ _)).head; unfold Hold.Rec.on at this; rw [hvw.ll]; exact this) (Nat.le_refl _) (by rw [hvw.ll]; omega))
    have HPI3 := Lib.hid (Ints.move (⟨fun k _ hk => hb3.block k hk, Nat.zero_le _, hs3⟩ : Still w.heap.size wr.heap.size 0 w3.heap.size wr w3) HPI.out)
    have HVF3 := Lib.hid (Ints.move (Still.wide w3 (Nat.zero_le _) (Nat.le_refl _)) HVF.out)
    have HVL3 := Lib.hid (Ints.move (Still.wide w3 (Nat.zero_le _) (Nat.le_refl _)) HVL.out)
    obtain ⟨Af, kf, ef⟩ := Row.form HVF.out
    rw [hvw.fl] at ef
    subst ef
    obtain ⟨Al, kl, el⟩ := Row.form HVL.out
    rw [hvw.ll] at el
    subst el
    -- the box of the view
    obtain ⟨Wb, hWb⟩ : ∃ W, w3.alloc (.cells #[Value.slice none 0 0, Value.slice none 0 0] 40) = W := ⟨_, rfl⟩
    have hob : Mem.Own Wb w3.heap.size 40 [Value.slice none 0 0, Value.slice none 0 0] := by rw [← hWb]; exact Own.made w3 _ _
    have hbb : Below w3.heap.size w3 Wb := by rw [← hWb]; exact up11 w3 _
    have p0 := hob.cell 0
    have p1 := hob.cell 1
    have p0t := hob.thaw 0
    have p1t := hob.thaw 1
    simp only [List.getElem?_cons_zero, List.getElem?_cons_succ] at p0 p1
    obtain ⟨Wc, hWc⟩ : ∃ W, (Wb.setCell ⟨w3.heap.size, 0, none⟩ (Value.slice Af g.length kf)).setCell ⟨w3.heap.size, 1, none⟩ (Value.slice Al g.length kl) = W := ⟨_, rfl⟩
    have hoc : Mem.Own Wc w3.heap.size 40 [Value.slice Af g.length kf, Value.slice Al g.length kl] := by rw [← hWc]; exact (hob.store 0 _).store 1 _
    have hbc : Below w3.heap.size w3 Wc := by
      rw [← hWc]
      exact (hbb.setCell (p := ⟨w3.heap.size, 0, none⟩) (Nat.le_refl _) _).setCell (p := ⟨w3.heap.size, 1, none⟩) (Nat.le_refl _) _
    have HOC := Lib.hid hoc
    have HBC := Lib.hid hbc
    have hhw : hi ≤ w3.heap.size := Nat.le_trans hh (Nat.le_trans hrs hs3)
    have QC := Lib.hid (comers_any lo hi Wc _ g (Graph.move (Still.of_below (hbc.mono hhw)) (Graph.move (Still.of_below (HB3.out.mono hh)) HG.out)) (Nat.le_trans hhw hbc.size) hn)
    clear hap3 hvw hb3 hob hbb hoc hbc
    go_wp2_with fail
    clear hWb hWc p0 p1 p0t p1t
    refine QC.out.mono ?_
    rintro e w5 ⟨vF, rfl, hof, hb5⟩
    have HB5 := Lib.hid hb5
    have hs5 := hb5.size
    have hsc := HBC.out.size
    have HGF := Lib.hid (hof.graph (hi := w5.heap.size) (Nat.le_refl _) (by rw [from_len]; omega) (fun l hl => by
      obtain ⟨i, hi⟩ := List.mem_iff_getElem?.1 hl
      have hil := (List.getElem?_eq_some_iff.1 hi).1
      rw [from_len] at hil
      rw [from_at hil] at hi
      have := fl_len g i
      cases hi
      omega))
    have HGF5 := Lib.hid (Graph.move (Still.wide w5 (Nat.zero_le _) (Nat.le_refl _)) HGF.out)
    obtain ⟨AF, cF, eF⟩ := hof.form
    rw [from_len] at eF
    subst eF
    have hb35 : Below w3.heap.size w3 w5 := HBC.out.trans (hb5.mono hsc)
    have st35 : Still 0 w3.heap.size 0 w5.heap.size w3 w5 := ⟨fun k _ hk => hb35.block k hk, Nat.le_refl _, Nat.le_trans hsc hs5⟩
    have HPI5 := Lib.hid (Ints.move st35 HPI3.out)
    have HVF5 := Lib.hid (Ints.move st35 HVF3.out)
    have HVL5 := Lib.hid (Ints.move st35 HVL3.out)
    have HOX := Lib.hid (HOC.out.below hb5 (HOC.out.lt))
    have HBW := Lib.hid (show Below w.heap.size w w5 from HB3.out.trans (hb35.mono (Nat.le_trans hrs hs3)))
    have hxl : w3.heap.size < w5.heap.size := HOX.out.lt
    clear hof hb5 hb35 st35
    go_wp2_with fail
    go_loopw [32] (fun kv wr => ∃ t9 : Nat, t9 ≤ g.length ∧ kv = .int .i64 t9 ∧ Hid (∀ to at9 : Nat, to < t9 → ¬ Odd g to at9) ∧ Hid (Below w5.heap.size w5 wr)) (fun kv _ => g.length - (intOf kv).toNat)
    case atStart => exact ⟨0, Nat.zero_le _, rfl, Lib.hid (fun to at9 h => by omega), Lib.hid (Below.refl _ _)⟩
    case round =>
    obtain ⟨t9, ht9, rfl, HN, HBr9⟩ := hrel
    by_cases hlt9 : t9 < g.length
    · obtain ⟨bF, oF, rfl⟩ := addr_of9 HGF5.out (by omega)
      obtain ⟨A9, k9, kx, hcx⟩ := graph_cell HGF5.out (from_at hlt9)
      have d1 := hcx _ HBr9.out
      have HKX := Lib.hid kx
      have HNI := Lib.hid (show ∀ x ∈ (fl g t9).take 0, ∀ p : Nat, x = (p : Int) → ¬ Odd g t9 p from fun x hx => by simp at hx)
      clear kx hcx
      go_wp2_with fail
      go_loopw [39] (fun kv wr => ∃ j : Nat, j ≤ (fl g t9).length ∧ kv = .int .i64 j ∧ Hid (∀ x ∈ (fl g t9).take j, ∀ p : Nat, x = (p : Int) → ¬ Odd g t9 p) ∧ Hid (Below w5.heap.size w5 wr)) (fun kv _ => (fl g t9).length - (intOf kv).toNat)
      case atStart => exact ⟨0, Nat.zero_le _, rfl, HNI, HBr9⟩
      case round =>
      obtain ⟨j, hj, rfl, HNI, HBr9⟩ := hrel
      have hfll := fl_len g t9
      by_cases hltj : j < (fl g t9).length
      · obtain ⟨x, hx⟩ : ∃ x, (fl g t9)[j]? = some x := ⟨_, List.getElem?_eq_getElem hltj⟩
        obtain ⟨p, rfl, hpc, hpl⟩ := fl_mem.1 (List.mem_of_getElem? hx)
        have hpn := hpc.last.1
        have htc : Come g t9 := .step hpc hpl hlt9 trivial
        obtain ⟨b9, o9, rfl⟩ := addr_of9 HKX.out (by omega)
        obtain ⟨c1, _, rfl, n1⟩ := cell_of HKX.out hx HBr9.out
        have m1 := n1 _ rfl
        have hpn9 := HPLN.out
        obtain ⟨bP, oP, rfl⟩ := addr_of9 HPI5.out (by omega)
        obtain ⟨c2, _, rfl, n2⟩ := cell_of HPI5.out (HPL.out t9 htc) HBr9.out
        have m2 := n2 _ rfl
        obtain ⟨c3, _, rfl, n3⟩ := cell_of HPI5.out (HPL.out p hpc) HBr9.out
        have m3 := n3 _ rfl
        have hbx := HOX.out.below HBr9.out hxl
        have m4 := hbx.cell 0
        have m5 := hbx.cell 1
        simp only [List.getElem?_cons_zero, List.getElem?_cons_succ] at m4 m5
        have HTK := Lib.hid (take_nx hx)
        have HPC := Lib.hid hpc
        have HPLL := Lib.hid hpl
        clear n1 n2 n3 hx hbx hpn9
        by_cases hle : pos g t9 ≤ pos g p
        · have e1 : decide ((pos g t9 : Int) ≤ (pos g p : Int)) = true := decide_eq_true (by omega)
          have e2 : decide (pos g t9 ≤ pos g p) = true := decide_eq_true hle
          have QS := Lib.hid (sees_any 0 w5.heap.size wr.drew _ _ fi la (Ints.move (Still.of_below HBr9.out.drew) HVF5.out) (Ints.move (Still.of_below HBr9.out.drew) HVL5.out) HBr9.out.drew.size t9 p (by have := HV.out.fl; omega) (by have := HV.out.fl; omega) (by have := HV.out.ll; omega))
          obtain ⟨sb, hsb⟩ : ∃ sb, seesB fi la t9 (p : Int) = sb := ⟨_, rfl⟩
          rw [hsb] at QS
          have HSB := Lib.hid hsb
          have HLE := Lib.hid hle
          clear hsb hle
          go_wp2_with fail
          go_still_tail 13, (by kernel_rfl)
          change wpList _ _ _ _ _ wr.drew
          go_wp2_with fail
          refine QS.out.mono ?_
          rintro e w6 ⟨rfl, hb6⟩
          have HB6 := Lib.hid (HBr9.out.drew.trans (hb6.mono HBr9.out.drew.size))
          clear hb6
          cases sb with
          | true =>
            have HNI2 := Lib.hid (show ∀ x ∈ (fl g t9).take (j + 1), ∀ p : Nat, x = (p : Int) → ¬ Odd g t9 p from fun x hx p2 e => by
              rw [HTK.out] at hx
              rcases List.mem_append.1 hx with hx | hx
              · exact HNI.out x hx p2 e
              · rw [List.mem_singleton] at hx
                obtain rfl : p = p2 := by omega
                exact fun ho => ho.2.2.2.2 ((sees_iff HV.out htc HPC.out).1 HSB.out))
            go_wp2_with fail
            go_roundw
            case rel => exact ⟨j + 1, by omega, by go_num, HNI2, HB6⟩
            case measure => simp [intOf]; omega
          | false =>
            have HYES := Lib.hid (show crossV g = true from cross_odd.2 ⟨t9, p, HPC.out, HPLL.out, hlt9, HLE.out, fun hd => by
              have := (sees_iff HV.out htc HPC.out).2 hd
              rw [HSB.out] at this
              cases this⟩)
            go_wp2_with fail
            go_ret
            exact ⟨by rw [HYES.out]; rfl, HBW.out.trans (HB6.out.mono (by have := HBW.out.size; omega))⟩
        · have e1 : decide ((pos g t9 : Int) ≤ (pos g p : Int)) = false := decide_eq_false (by omega)
          have e2 : decide (pos g t9 ≤ pos g p) = false := decide_eq_false hle
          have HNI2 := Lib.hid (show ∀ x ∈ (fl g t9).take (j + 1), ∀ p : Nat, x = (p : Int) → ¬ Odd g t9 p from fun x hx p2 e => by
            rw [HTK.out] at hx
            rcases List.mem_append.1 hx with hx | hx
            · exact HNI.out x hx p2 e
            · rw [List.mem_singleton] at hx
              obtain rfl : p = p2 := by omega
              exact fun ho => hle ho.2.2.2.1)
          clear hle
          go_wp2_with fail
          go_still_tail 13, (by kernel_rfl)
          change wpList _ _ _ _ _ wr.drew
          go_wp2_with fail
          go_roundw
          case rel => exact ⟨j + 1, by omega, by go_num, HNI2, Lib.hid HBr9.out.drew⟩
          case measure => simp [intOf]; omega
      · have hje : j = (fl g t9).length := by omega
        have HN2 := Lib.hid (show ∀ to at9 : Nat, to < t9 + 1 → ¬ Odd g to at9 from fun to at9 h ho => by
          by_cases e : to = t9
          · subst e
            exact HNI.out (at9 : Int) (by rw [hje, List.take_length]; exact fl_mem.2 ⟨at9, rfl, ho.1, ho.2.1⟩) at9 rfl ho
          · exact HN.out to at9 (by omega) ho)
        clear hje
        go_wp2_with fail
        go_roundw
        case rel => exact ⟨t9 + 1, by omega, by go_num, HN2, HBr9⟩
        case measure => simp [intOf]; omega
    · have HNO := Lib.hid (show crossV g = false by
        rw [← Bool.not_eq_true, cross_odd]
        rintro ⟨to, at9, ho⟩
        exact HN.out to at9 (by have := ho.2.2.1; omega) ho)
      go_wp2_with fail
      go_ret
      exact ⟨by rw [HNO.out]; rfl, HBW.out.trans (HBr9.out.mono (by have := HBW.out.size; omega))⟩
end Go.Proofs.Ytiohngbmddfgfaa.Lp11
