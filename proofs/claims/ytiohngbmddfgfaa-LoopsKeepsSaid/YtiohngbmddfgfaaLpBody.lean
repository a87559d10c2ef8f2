/-
  Layer 11: package loops gathers the points of a loop.
-/
import Derived.Test.YtiohngbmddfgfaaLpThose
import Derived.Test.YtiohngbmddfgfaaLpRead
import Derived.Sort.OwnSortedInts
namespace Go.Proofs.Ytiohngbmddfgfaa.Lp11
open Go.RowKit Api Mem Fl9 Dm10

abbrev rowN (v : Value) (n : Nat) (l : List Int) : Hold.Rec := ⟨3, 1, v, n, iC l⟩
theorem perm3 {α : Type} {a b c : α} {l : List α} : (a :: b :: c :: l).Perm (c :: a :: b :: l) := ((List.Perm.swap c b l).cons a).trans (List.Perm.swap c a (b :: l))
theorem perm4 {α : Type} {a b c d : α} {l : List α} : (a :: b :: c :: d :: l).Perm (d :: a :: b :: c :: l) := (perm3.cons a).trans (List.Perm.swap d a (b :: c :: l))
theorem perm5 {α : Type} {a b c d e : α} {l : List α} : (a :: b :: c :: d :: e :: l).Perm (e :: a :: b :: c :: d :: l) := (perm4.cons a).trans (List.Perm.swap e a (b :: c :: d :: l))
/-- the box of a struct of two cells, as a row of one. -/
abbrev box2 (t : TypeId) (b : Nat) (x y : Value) : Hold.Rec := ⟨t, 2, .slice (some ⟨b, 0, none⟩) 1 1, 1, [x, y]⟩
theorem ints_cells {lo hi : Nat} {w w' : World} {A : Option Addr} {n c : Nat} {l : List Int} (h : Ints lo hi w (.slice A n c) l) (hb : Below hi w w') : 0 < n → ∃ b off, A = some ⟨b, off, none⟩ ∧ ∀ (j : Nat) (u : Value), (iC l)[j]? = some u → w'.cell? ⟨b, off + j, none⟩ = some u := by
  intro h0
  obtain ⟨b, o, rfl⟩ := addr_of9 h h0
  refine ⟨b, o, rfl, fun j u hu => ?_⟩
  rw [List.getElem?_map] at hu
  obtain ⟨x, hx, rfl⟩ := Option.map_eq_some_iff.1 hu
  obtain ⟨cs, _, rfl, hc⟩ := cell_of h hx hb
  exact hc _ rfl
theorem graph_cell {lo hi b o n c i : Nat} {w : World} {L : List (List Int)} {l : List Int} (h : Graph lo hi w (.slice (some ⟨b, o, none⟩) n c) L) (hl : L[i]? = some l) : ∃ A k, Ints lo hi w (.slice A l.length k) l ∧ ∀ w', Below hi w w' → w'.cell? ⟨b, o + i, none⟩ = some (.slice A l.length k) := by
  obtain ⟨b', off', hn, hm, ha, hc⟩ := h.get
  have hi := (List.getElem?_eq_some_iff.1 hl).1
  obtain ⟨e, h1, h2⟩ := ha (by omega)
  simp only [Option.some.injEq, Addr.mk.injEq, and_true] at e
  obtain ⟨rfl, rfl⟩ := e
  obtain ⟨cs, c1, c2, u, rfl, hu⟩ := hc i l hl
  obtain ⟨A, k, rfl⟩ := Row.form hu
  refine ⟨A, k, hu, fun w' hb => ?_⟩
  have := cells_later c2 hb h2 0 _ rfl
  simpa using this
theorem iC_one {l : List Int} : ∀ u ∈ iC l, u.oneCell' = true := by
  intro u hu
  obtain ⟨x, _, rfl⟩ := List.mem_map.1 hu
  rfl
/-- what gathering answers. -/
def BodyP (g : List (List Int)) (h base : Nat) (vof vb : Value) (R : List Hold.Rec) (ofs : List Int) (w : World) (e : Ending) (w' : World) : Prop := ∃ u ofs', e = .returned u ∧ Hold.Apart w' base (innR u (casts (bodyL g h)) :: rowN vof g.length ofs' :: innR vb (casts (backL g h)) :: R) ∧ ofs'.length = g.length ∧ (∀ (q : Nat) (x : Int), ofs'[q]? = some x → ofs[q]? = some x ∨ x = (h : Int)) ∧ Below base w w'
set_option maxRecDepth 100000 in
set_option maxHeartbeats 8000000 in
theorem body_any (lo hi : Nat) (w : World) (vF vof vb : Value) (g : List (List Int)) (base : Nat) (R : List Hold.Rec) (hd : Nat) (ofs : List Int) (hF : Graph lo hi w vF (fromV g)) (hhi : hi ≤ base) (hb : base ≤ w.heap.size) (hn : g.length ≤ 1000)
    (hap : Hold.Apart w base (rowN vof g.length ofs :: innR vb (casts (backL g hd)) :: R)) (hne : backL g hd ≠ []) (hol : ofs.length = g.length) (hon : ∀ q : Nat, ofs[q]? ≠ some (hd : Int)) (hc : Come g hd) :
    Calls Try.prog 20 #[.agg #[vF, vof], i64 (hd : Int), vb] w (BodyP g hd base vof vb R ofs w) := by
  have hhl : hd < g.length := hc.last.1
  obtain ⟨A1, k1, rfl⟩ := Row.form hF
  rw [from_len] at hF ⊢
  obtain ⟨gO, cO, eO, hO1, hO2, _⟩ := form9 hap.head (by show 0 < g.length; omega)
  simp only at eO
  subst eO
  have hapb := hap.perm (List.Perm.swap _ _ _)
  have hbl : 0 < (casts (backL g hd)).length := by rw [casts_len]; exact List.length_pos_iff.2 hne
  obtain ⟨gB, cB, eB, hB1, hB2, _⟩ := form9 hapb.head (by exact hbl)
  simp only at eB
  subst eB
  obtain ⟨ii, hi1, hi2, hi3, hi4⟩ := info_in9
  have HII : Hid (Try.prog.info? 3 = some ii ∧ ii.zero = some (.int .i64 0) ∧ ii.size = 1 ∧ ii.bytes = 8) := Lib.hid ⟨hi1, hi2, hi3, hi4⟩
  -- the box, and the first point
  obtain ⟨W0, hW0⟩ : ∃ W, w.alloc (.cells #[Value.slice A1 g.length k1, Value.slice (some ⟨gO, 0, none⟩) g.length cO] 44) = W := ⟨_, rfl⟩
  have hs0 : W0.heap.size = w.heap.size + 1 := by rw [← hW0]; simp
  have hb0 : Below w.heap.size w W0 := by rw [← hW0]; exact up11 w _
  have ho0 : W0.ownsRow w.heap.size 44 2 (.slice (some ⟨w.heap.size, 0, none⟩) 1 1) 1 [Value.slice A1 g.length k1, Value.slice (some ⟨gO, 0, none⟩) g.length cO] := by
    rw [← hW0]
    exact World.ownsRow_lit (base := w.heap.size) (e := 44) (size := 2) w #[Value.slice A1 g.length k1, Value.slice (some ⟨gO, 0, none⟩) g.length cO] 1 (Nat.le_refl _) (by unfold maxLen; omega) rfl
  have ha0 := hap.join hb0 (Dm10.one_apart (r := box2 44 w.heap.size (Value.slice A1 g.length k1) (Value.slice (some ⟨gO, 0, none⟩) g.length cO)) ho0) hb
  obtain ⟨W1, hW1⟩ : ∃ W, W0.alloc (.cells #[i64 (hd : Int)] 3) = W := ⟨_, rfl⟩
  have hs1 : W1.heap.size = W0.heap.size + 1 := by rw [← hW1]; simp
  have hb1 : Below W0.heap.size W0 W1 := by rw [← hW1]; exact up11 W0 _
  have ho1 : W1.ownsRow W0.heap.size 3 1 (.slice (some ⟨W0.heap.size, 0, none⟩) 1 1) 1 [i64 (hd : Int)] := by
    rw [← hW1]
    exact World.ownsRow_lit (base := W0.heap.size) (e := 3) (size := 1) W0 #[i64 (hd : Int)] 1 (Nat.le_refl _) (by unfold maxLen; omega) rfl
  have ha1 := ha0.join hb1 (Dm10.one_apart (r := innR (.slice (some ⟨W0.heap.size, 0, none⟩) 1 1) [(hd : Int)]) ho1) (by omega)
  -- body, box, of, back
  have ha1' := ha1.perm perm3
  obtain ⟨yO, hyO⟩ : ∃ y, ofs[hd]? = some y := ⟨_, List.getElem?_eq_getElem (by omega)⟩
  have c1 := Hold.Rec.on.cell ha1'.head rfl (j := hd) (u := i64 yO) (by rw [List.getElem?_map, hyO]; rfl)
  have c1t := Hold.Rec.on.thaw ha1'.head rfl hd
  have hx1 := ha1.1 (box2 44 w.heap.size (Value.slice A1 g.length k1) (Value.slice (some ⟨gO, 0, none⟩) g.length cO)) (by simp)
  have c2 := Hold.Rec.on.cell hx1 rfl (j := 1) (u := Value.slice (some ⟨gO, 0, none⟩) g.length cO) rfl
  obtain ⟨W2, hW2⟩ : ∃ W, W1.setCell ⟨gO, hd, none⟩ (i64 (hd : Int)) = W := ⟨_, rfl⟩
  have ha2 : Hold.Apart W2 base (rowN (.slice (some ⟨gO, 0, none⟩) g.length cO) g.length (ofs.set hd (hd : Int)) :: innR (.slice (some ⟨W0.heap.size, 0, none⟩) 1 1) [(hd : Int)] :: box2 44 w.heap.size (Value.slice A1 g.length k1) (Value.slice (some ⟨gO, 0, none⟩) g.length cO) :: innR (.slice (some ⟨gB, 0, none⟩) (casts (backL g hd)).length cB) (casts (backL g hd)) :: R) := by
    have := ha1'.store (q := hd) (u := i64 (hd : Int)) rfl
    rw [hW2] at this
    simpa [rowN, iC, List.map_set] using this
  have hb2 : Below base w W2 := by
    rw [← hW2]
    exact ((hb0.mono hb).trans (hb1.mono (by omega))).setCell (p := ⟨gO, hd, none⟩) hO1 _
  have hs2 : W2.heap.size = W1.heap.size := by rw [← hW2]; simp
  have hk2 := (ha2.perm perm4).head
  have QC := Lib.hid (Any.slices_Clone_int Try.lays2_15 gB 0 (casts (backL g hd)).length cB (casts (backL g hd)) W2 (Nat.le_refl _) (by rw [casts_len]; have := backL_len g hd; omega) (fun j hj => by
    rw [Nat.zero_add]
    exact Hold.Rec.on.cell hk2 rfl (by
      obtain ⟨x, hx⟩ : ∃ x, (casts (backL g hd))[j]? = some x := ⟨_, List.getElem?_eq_getElem hj⟩
      rw [List.getElem?_map, List.getD_eq_getElem?_getD, hx]; rfl)))
  have HA2 := Lib.hid ha2
  have HB2 := Lib.hid hb2
  have HG0 := Lib.hid (Ga.start hol hon hhl)
  have HHB : Hid (base ≤ W2.heap.size) := Lib.hid (by omega)
  have HF := Lib.hid hF
  have HOL := Lib.hid hol
  have HST := Lib.hid (show ∀ (q : Nat) (x : Int), (ofs.set hd (hd : Int))[q]? = some x → ofs[q]? = some x ∨ x = (hd : Int) from fun q x hq => by
    by_cases e : hd = q
    · subst e
      rw [List.getElem?_set_self (by omega)] at hq
      exact .inr (Option.some.inj hq).symm
    · rw [List.getElem?_set_ne e] at hq
      exact .inl hq)
  clear hap hapb hi1 hi2 hi3 hi4 hb0 ho0 ha0 hb1 ho1 ha1 ha1' hx1 hyO ha2 hb2 hk2 hon hol hF hs0 hs1 hs2
  go_enter Try.func20, Try.ntmps20
  go_wp2_with fail
  clear hW0 hW1 hW2
  refine QC.out.mono ?_
  rintro e W3 ⟨v3, rfl, ho3, _, hb3⟩
  have HA3 := Lib.hid (HA2.out.join (R2 := [innR v3 (casts (backL g hd))]) hb3 (Dm10.one_apart (r := innR v3 (casts (backL g hd))) (by
    have := ho3
    rw [List.take_of_length_le (Nat.le_refl _)] at this
    exact this)) HHB.out)
  have HB3 := Lib.hid (HB2.out.trans (hb3.mono HHB.out))
  have hs3 := hb3.size
  clear ho3 hb3
  go_wp2_with fail
  have HA4 := Lib.hid (show Hold.Apart W3 base (innR v3 (casts (backL g hd)) :: innR (Value.slice (some ⟨W0.heap.size, 0, none⟩) 1 1) [(hd : Int)] :: rowN (.slice (some ⟨gO, 0, none⟩) g.length cO) g.length (ofs.set hd (hd : Int)) :: box2 44 w.heap.size (Value.slice A1 g.length k1) (Value.slice (some ⟨gO, 0, none⟩) g.length cO) :: innR (.slice (some ⟨gB, 0, none⟩) (casts (backL g hd)).length cB) (casts (backL g hd)) :: R) from HA3.out.perm ((List.Perm.swap _ _ _).cons _))
  go_loopg [7, 8] ((casts (backL g hd)).length + un (mkd hd (ofs.set hd (hd : Int))) * (g.length + 1)) (fun M vB vR wr => ∃ (B Rr of2 : List Int), Rr.length + un (mkd hd of2) * (g.length + 1) ≤ M ∧ Hid (Ga g hd of2 B Rr) ∧ Hid (Hold.Apart wr base (innR vR Rr :: innR vB B :: rowN (.slice (some ⟨gO, 0, none⟩) g.length cO) g.length of2 :: box2 44 w.heap.size (Value.slice A1 g.length k1) (Value.slice (some ⟨gO, 0, none⟩) g.length cO) :: innR (.slice (some ⟨gB, 0, none⟩) (casts (backL g hd)).length cB) (casts (backL g hd)) :: R)) ∧ Hid (Below base w wr) ∧ Hid (∀ (q : Nat) (x : Int), of2[q]? = some x → ofs[q]? = some x ∨ x = (hd : Int)))
  case atStart => exact ⟨_, _, _, Nat.le_refl _, HG0, HA4, HB3, HST⟩
  case round =>
  obtain ⟨B, Rr, of2, hM, HGA, HA, HBr, HST⟩ := hrel
  obtain ⟨AR, cR, hvR⟩ := HA.out.head.form
  simp only at hvR
  subst hvR
  obtain ⟨AB, cB2, hvB⟩ := (HA.out.perm (List.Perm.swap _ _ _)).head.form
  simp only at hvB
  subst hvB
  rcases List.eq_nil_or_concat Rr with e | ⟨R1, x, e⟩
  · subst e
    have hBm : 0 < B.length := List.length_pos_iff.2 (List.ne_nil_of_mem HGA.out.hd)
    have hap2 := HA.out.perm (List.Perm.swap _ _ _)
    obtain ⟨gb, cb, eb, hb1, hb2, _⟩ := form9 hap2.head hBm
    simp only [Value.slice.injEq, true_and] at eb
    obtain ⟨rfl, rfl⟩ := eb
    obtain ⟨cur, hcur, hn1, hn2, hn3, hn4⟩ : ∃ cur : Array Value, wr.heap[gb]? = some (.cells cur 3 (0, 0)) ∧ B.length ≤ cB2 ∧ cB2 ≤ maxLen ∧ cur.size = cB2 * 1 ∧ cur.toList.take (B.length * 1) = iC B := by
      rcases hap2.head.2 with ⟨e9, _⟩ | ⟨g9, c9, cur, e9, _, k1, k2, k3, k4, k5⟩
      · cases e9
      · have e9 : Value.slice (some ⟨gb, 0, none⟩) B.length cB2 = .slice (some ⟨g9, 0, none⟩) B.length c9 := e9
        simp only [Value.slice.injEq, Option.some.injEq, Addr.mk.injEq, and_true, true_and] at e9
        obtain ⟨rfl, rfl⟩ := e9
        exact ⟨cur, k1, k2, k3, k4, k5⟩
    rw [Nat.mul_one] at hn4
    have hsum := HGA.out.sum
    have QS := Lib.hid (Any.slices_Sort_int Try.lays189 gb 0 cB2 B wr (holds_of_blockI hcur hn4) hb2 (by omega))
    have HS := Lib.hid (sort_body hc HGA.out)
    have HCU := Lib.hid hcur
    have HAP2 := Lib.hid hap2
    have HN3 := Lib.hid hn3
    clear hap2 hcur hn4
    go_wp2_with fail
    refine QS.out.mono ?_
    rintro e w6 ⟨rfl, n6, os6, rfl⟩
    rw [HS.out]
    have hlen : (casts (bodyL g hd)).length = B.length := by rw [← HS.out, List.length_mergeSort]
    have hA6 := HAP2.out.grow (grownBy_sortedI (n := n6) (os := os6) (casts (bodyL g hd)).toArray) (ownsRow_sortedI (base := base) (n := n6) (os := os6) hlen hb1 HCU.out hn1 hn2 HN3.out) (.inl rfl)
    have hB6 := (Below.refl base wr).grown (grownBy_sortedI (w := wr) (g := gb) (n := n6) (os := os6) (casts (bodyL g hd)).toArray) (by have := hb1; omega) (fun k e => by cases e; exact hb1)
    have HA6 := Lib.hid hA6
    have HB6 := Lib.hid (HBr.out.trans hB6)
    have HLN := Lib.hid hlen
    clear hA6 hB6
    go_wp2_with fail
    go_ret
    refine ⟨_, of2, rfl, ?_, HGA.out.ml, HST.out, HB6.out⟩
    have h9 := HA6.out.sub (R' := _) (List.Sublist.cons_cons _ (.cons _ (.cons_cons _ (.cons _ (.cons_cons _ (List.Sublist.refl _))))))
    unfold innR
    rw [HLN.out]
    unfold innR at h9
    exact h9
  · rw [List.concat_eq_append] at e
    subst e
    obtain ⟨q, rfl, hbq⟩ := HGA.out.okR x (by simp)
    have hql : q < g.length := by
      rcases hbq with e | ⟨_, hcq, _⟩
      · rw [e]; exact hhl
      · exact hcq.last.1
    have hml := HGA.out.ml
    obtain ⟨y, hy⟩ : ∃ y, of2[q]? = some y := ⟨_, List.getElem?_eq_getElem (by omega)⟩
    obtain ⟨m, hm⟩ : ∃ m, R1.length = m := ⟨_, rfl⟩
    have hL : (R1 ++ [(q : Int)]).length = m + 1 := by simp [hm]
    obtain ⟨gR, cR2, eR, hR1, hR2, hR3⟩ := form9 HA.out.head (by show 0 < (R1 ++ [(q : Int)]).length; omega)
    simp only [Value.slice.injEq, true_and] at eR
    obtain ⟨rfl, rfl⟩ := eR
    have c1 := Hold.Rec.on.cell HA.out.head rfl (j := m) (u := i64 (q : Int)) (by
      rw [List.getElem?_map, List.getElem?_append_right (by omega), ← hm, Nat.sub_self]; rfl)
    have hx9 := HA.out.1 (box2 44 w.heap.size (Value.slice A1 g.length k1) (Value.slice (some ⟨gO, 0, none⟩) g.length cO)) (by simp)
    have c2 := Hold.Rec.on.cell hx9 rfl (j := 1) (u := Value.slice (some ⟨gO, 0, none⟩) g.length cO) rfl
    have c3 := Hold.Rec.on.cell hx9 rfl (j := 0) (u := Value.slice A1 g.length k1) rfl
    have hapo := HA.out.perm perm3
    have c4 := Hold.Rec.on.cell hapo.head rfl (j := q) (u := i64 y) (by rw [List.getElem?_map, hy]; rfl)
    have c4t := Hold.Rec.on.thaw hapo.head rfl q
    have HCUT := Lib.hid (show Hold.Apart wr base (innR (.slice (some ⟨gR, 0, none⟩) m cR) R1 :: innR (.slice AB B.length cB2) B :: rowN (.slice (some ⟨gO, 0, none⟩) g.length cO) g.length of2 :: box2 44 w.heap.size (Value.slice A1 g.length k1) (Value.slice (some ⟨gO, 0, none⟩) g.length cO) :: innR (.slice (some ⟨gB, 0, none⟩) (casts (backL g hd)).length cB) (casts (backL g hd)) :: R) by
      have h1 := HA.out
      unfold innR at h1
      rw [hL] at h1
      have h2 := apart_cut h1
      have e2 : (iC (R1 ++ [(q : Int)])).take m = iC R1 := by
        rw [← List.map_take, ← hm, List.take_left']
        rfl
      rw [e2] at h2
      unfold innR
      rw [hm]
      exact h2)
    obtain ⟨L, hLL⟩ : ∃ L, m + 1 = L := ⟨_, rfl⟩
    have hR3 : (R1 ++ [(q : Int)]).length ≤ cR := hR3
    have hsz := HGA.out.sz
    have hnn := Nat.mul_le_mul hn hn
    have hLb : L ≤ 1001000 := by omega
    clear hsz hnn
    rw [hL, hLL] at hR3 ⊢
    have hmi : (L : Int) - 1 = (m : Int) := by omega
    have hmL : m < L := by omega
    have hL0 : 0 < L := by omega
    have hmc : m ≤ cR := by omega
    have HM := Lib.hid hM
    have HLM := Lib.hid hL
    have HMM := Lib.hid hm
    clear hL hLL hM hm
    have HGA1 := HGA
    have HQ := Lib.hid hy
    clear hx9 hapo
    by_cases hyh : y = (hd : Int)
    · have t1 : (y != (hd : Int)) = false := by rw [hyh]; simp
      have HGP := Lib.hid (HGA.out.pop rfl (by rw [HQ.out, hyh]))
      clear hyh
      go_wp2_with fail
      go_roundg (R1.length + un (mkd hd of2) * (g.length + 1))
      case measure => have := HM.out; have := HLM.out; have := HMM.out; simp only [List.length_append, List.length_singleton] at *; omega
      case rel => exact ⟨B, R1, of2, Nat.le_refl _, HGP, HCUT, HBr, HST⟩
    · have t1 : (y != (hd : Int)) = true := by simpa using hyh
      obtain ⟨_, hgt⟩ := HGA.out.take hc rfl (by rw [HQ.out]; intro e; exact hyh (Option.some.inj e))
      have hun := un_set (mk_new (h := hd) (q := q) (by rw [hml]; exact hql) (by rw [HQ.out]; intro e; exact hyh (Option.some.inj e)))
      rw [← mk_set] at hun
      have HUN := Lib.hid hun
      have HGT := Lib.hid hgt
      -- the mark
      obtain ⟨W5, hW5⟩ : ∃ W5, wr.setCell ⟨gO, q, none⟩ (i64 (hd : Int)) = W5 := ⟨_, rfl⟩
      have ha5 : Hold.Apart W5 base (rowN (.slice (some ⟨gO, 0, none⟩) g.length cO) g.length (of2.set q (hd : Int)) :: innR (.slice (some ⟨gR, 0, none⟩) m cR) R1 :: innR (.slice AB B.length cB2) B :: box2 44 w.heap.size (Value.slice A1 g.length k1) (Value.slice (some ⟨gO, 0, none⟩) g.length cO) :: innR (.slice (some ⟨gB, 0, none⟩) (casts (backL g hd)).length cB) (casts (backL g hd)) :: R) := by
        have := (HCUT.out.perm perm3).store (q := q) (u := i64 (hd : Int)) rfl
        rw [hW5] at this
        simpa [rowN, iC, List.map_set] using this
      have HA5 := Lib.hid (ha5.perm perm3)
      have HB5 := Lib.hid (show Below base w W5 by rw [← hW5]; exact HBr.out.setCell (p := ⟨gO, q, none⟩) hO1 _)
      have HS5 := Lib.hid (show base ≤ W5.heap.size by rw [← hW5]; simp; exact Nat.le_trans hb (by have := HBr.out.size; omega))
      have HFR := Lib.hid (from_at hql)
      have HSUM := Lib.hid HGA.out.sum
      obtain ⟨bF, oF, rfl⟩ := addr_of9 HF.out (by omega)
      clear hun hgt ha5 hyh
      obtain ⟨A9, k9, kx, hcx⟩ := graph_cell HF.out HFR.out
      have HKX := Lib.hid kx
      have HCX := Lib.hid hcx
      have hfl := fl_len g q
      have hsum9 := HSUM.out
      have hR1l := HMM.out
      clear kx hcx
      go_wp2_with (first
        | (at_builtin; refine Hold.wpList_grow (R := rowN (.slice (some ⟨gO, 0, none⟩) g.length cO) g.length (of2.set q (hd : Int)) :: innR (.slice (some ⟨gR, 0, none⟩) m cR) R1 :: box2 44 w.heap.size (Value.slice (some ⟨bF, oF, none⟩) g.length k1) (Value.slice (some ⟨gO, 0, none⟩) g.length cO) :: innR (.slice (some ⟨gB, 0, none⟩) (casts (backL g hd)).length cB) (casts (backL g hd)) :: R) rfl _ _ 31 rfl base (innR (.slice AB B.length cB2) B) ii _ 8 Try.underlying31 HII.out.1 HII.out.2.1 HII.out.2.2.1 HII.out.2.2.2 rfl Nat.one_pos rfl HA5.out [i64 (q : Int)] _ rfl rfl rfl (by intro u hu; rw [List.mem_singleton] at hu; subst hu; rfl) (by show B.length + 1 ≤ _; omega) (by show (B.length + 1) * 8 ≤ _; omega) HS5.out ?_; intro v7 w7 hA7 hB7; have HA7 := Lib.hid ((snoc9 (l := B) hA7).perm perm3); have HB7 := Lib.hid (HB5.out.trans hB7); have HS7 := Lib.hid (Nat.le_trans HS5.out hB7.size); have d3 := Hold.Rec.on.cell (HA7.out.1 (box2 44 w.heap.size (Value.slice (some ⟨bF, oF, none⟩) g.length k1) (Value.slice (some ⟨gO, 0, none⟩) g.length cO)) (by simp)) rfl (j := 0) (u := Value.slice (some ⟨bF, oF, none⟩) g.length k1) rfl; have d4 := HCX.out w7 (HB7.out.mono hhi); clear hA7 hB7)
        | (at_builtin; refine wpList_readA (R := innR v7 (B ++ [(q : Int)]) :: rowN (.slice (some ⟨gO, 0, none⟩) g.length cO) g.length (of2.set q (hd : Int)) :: box2 44 w.heap.size (Value.slice (some ⟨bF, oF, none⟩) g.length k1) (Value.slice (some ⟨gO, 0, none⟩) g.length cO) :: innR (.slice (some ⟨gB, 0, none⟩) (casts (backL g hd)).length cB) (casts (backL g hd)) :: R) rfl _ _ 31 rfl base (innR (.slice (some ⟨gR, 0, none⟩) m cR) R1) ii _ 8 Try.underlying31 HII.out.1 HII.out.2.1 HII.out.2.2.1 HII.out.2.2.2 rfl Nat.one_pos rfl HA7.out A9 (fl g q).length k9 (iC (fl g q)) rfl (by simp) (ints_cells HKX.out (HB7.out.mono hhi)) iC_one (by show R1.length + (fl g q).length ≤ _; omega) (by show (R1.length + (fl g q).length) * 8 ≤ _; omega) HS7.out ?_; intro v8 w8 hA8 hB8; have HA8 := Lib.hid hA8; have HB8 := Lib.hid (HB7.out.trans hB8); clear hA8 hB8))
      go_roundg (R1.length + (fl g q).length + un (mkd hd (of2.set q (hd : Int))) * (g.length + 1))
      case measure =>
        have := HM.out
        have := HLM.out
        have e9 : un (mkd hd of2) * (g.length + 1) = un (mkd hd (of2.set q (hd : Int))) * (g.length + 1) + (g.length + 1) := by rw [← HUN.out, Nat.add_mul, Nat.one_mul]
        simp only [List.length_append, List.length_singleton] at *
        omega
      case rel =>
        refine ⟨B ++ [(q : Int)], R1 ++ fl g q, of2.set q (hd : Int), by rw [List.length_append]; exact Nat.le_refl _, HGT, Lib.hid ?_, HB8, Lib.hid fun q2 x2 h2 => ?_⟩
        · have h9 := HA8.out
          have e9 : iC R1 ++ iC (fl g q) = iC (R1 ++ fl g q) := by simp [iC]
          simp only [e9] at h9
          unfold innR
          rw [List.length_append]
          exact h9
        · by_cases e : q = q2
          · subst e
            rw [List.getElem?_set_self (by rw [hml]; exact hql)] at h2
            exact .inr (Option.some.inj h2).symm
          · rw [List.getElem?_set_ne e] at h2
            exact HST.out q2 x2 h2
end Go.Proofs.Ytiohngbmddfgfaa.Lp11
