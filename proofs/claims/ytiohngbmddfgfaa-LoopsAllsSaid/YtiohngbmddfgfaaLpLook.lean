/-
  Layer 11: package loops' overlook: a range over slices.Backward.
-/
import Derived.RangeFuncNested
import Derived.RangeFuncBound
import Derived.RangeFuncCalls
import Derived.RangeFuncLeaves
import Derived.RangeFuncBox
import Derived.Shelf.Abstract
import Derived.Shelf.RegionOpen
import Derived.WalkKit
import Derived.OwnWalkIn
import Derived.TacticsInMore
import Derived.LoopNIn
import Derived.LoopIn
import Derived.Test.YtiohngbmddfgfaaLpView
import Derived.Test.YtiohngbmddfgfaaLpFill
import Derived.Test.YtiohngbmddfgfaaLpBack
import Derived.Test.YtiohngbmddfgfaaLpRound
import Derived.Test.YtiohngbmddfgfaaDomD
namespace Go.Proofs.Ytiohngbmddfgfaa.Lp11
open Go.RowKit Go.Shelf Api Mem Fl9 Dm10

attribute [local go_sem] Oper.semAt_some
/-- a row of the call's own, after a turn of a block that is no cells. -/
theorem own_grown {W W' : World} {row : Option Nat} {b : Nat} {t : TypeId} {cs : List Value} (h : Mem.Own W b t cs) (hg : W.grownBy W' row) (hr : ∀ r, row = some r → ∃ o : Obj, W.heap[r]? = some o ∧ o.isCells = false) : Mem.Own W' b t cs := by
  refine (hg.block b h.lt fun e => ?_).trans h
  obtain ⟨o, h1, h2⟩ := hr b e.symm
  have h3 : W.heap[b]? = some (.cells cs.toArray t (0, 0)) := h
  rw [h3] at h1
  cases h1
  cases h2
theorem row_grown {W W' : World} {row : Option Nat} {base size n : Nat} {t : TypeId} {v : Value} {cs : List Value} (h : W.ownsRow base t size v n cs) (hg : W.grownBy W' row) (hr : ∀ r, row = some r → ∃ o : Obj, W.heap[r]? = some o ∧ o.isCells = false) : W'.ownsRow base t size v n cs := by
  refine h.kept hg ?_
  cases hv : v.ownBlock with
  | none => exact .inl rfl
  | some k =>
    right
    intro e
    obtain ⟨o, h1, h2⟩ := hr k e.symm
    rcases h.2 with ⟨e9, _⟩ | ⟨g, cap, cur, e9, _, hk, _⟩
    · rw [e9] at hv; cases hv
    · rw [e9] at hv
      cases hv
      rw [hk] at h1
      cases h1
      cases h2
theorem apart_grown {W W' : World} {row : Option Nat} {base : Nat} {R : List Hold.Rec} (h : Hold.Apart W base R) (hg : W.grownBy W' row) (hr : ∀ r, row = some r → ∃ o : Obj, W.heap[r]? = some o ∧ o.isCells = false) : Hold.Apart W' base R := ⟨fun r hr2 => row_grown (h.1 r hr2) hg hr, h.2⟩
abbrev rowI (v : Value) (n : Nat) (l : List Int) : Hold.Rec := ⟨3, 1, v, n, iC l⟩
theorem own_ne {W : World} {b base g n m c : Nat} {t : TypeId} {cs xs : List Value} (h : Mem.Own W b t cs) (h2 : W.ownsRow base 3 1 (.slice (some ⟨g, 0, none⟩) m c) n xs) (hte : t ≠ 3) : b ≠ g := by
  intro e1
  rcases h2.2 with ⟨e9, _⟩ | ⟨g9, cap, cur, e9, _, hk, _⟩
  · cases e9
  · simp only [Value.slice.injEq, Option.some.injEq, Addr.mk.injEq, and_true, true_and] at e9
    obtain ⟨rfl, _⟩ := e9
    have h3 : W.heap[b]? = some (.cells cs.toArray t (0, 0)) := h
    rw [e1, hk] at h3
    simp only [Option.some.injEq, Obj.cells.injEq] at h3
    exact hte h3.2.1.symm
/-- between two rounds of overlook. -/
structure Lk (g : List (List Int)) (w : World) (base b1 b5 bi lo1 hi1 m : Nat) (vn vf vl vo : Value) (pre : List Nat) (W : World) (fi la : List Int) : Prop where
  fl : fi.length = g.length
  ll : la.length = g.length
  vw : pre = List.range pre.length → pre.length ≤ m → Vw g (m - pre.length) fi la
  ap : Hold.Apart W base [rowI vf g.length fi, rowI vl g.length la]
  br : Mem.Own W w.heap.size 40 [Value.slice none 0 0, Value.slice none 0 0]
  bn : Mem.Own W b1 31 [vn]
  bv : Mem.Own W b5 40 [vf, vl]
  bo : Mem.Own W bi 31 [vo]
  ni : Ints lo1 hi1 W vn (nearestV g)
  be : Below w.heap.size w W
theorem Lk.grown {g : List (List Int)} {w : World} {base b1 b5 bi lo1 hi1 m B : Nat} {vn vf vl vo : Value} {pre : List Nat} {W W' : World} {fi la : List Int} (h : Lk g w base b1 b5 bi lo1 hi1 m vn vf vl vo pre W fi la) {row : Option Nat} (hg : W.grownBy W' row) (hr : ∀ r, row = some r → B ≤ r ∧ ∃ o : Obj, W.heap[r]? = some o ∧ o.isCells = false) (hB : hi1 ≤ B) (hw : w.heap.size ≤ B) (hb1 : hi1 ≤ b1) : Lk g w base b1 b5 bi lo1 hi1 m vn vf vl vo pre W' fi la := by
  have hr2 : ∀ r, row = some r → ∃ o : Obj, W.heap[r]? = some o ∧ o.isCells = false := fun r e => (hr r e).2
  refine ⟨h.fl, h.ll, h.vw, apart_grown h.ap hg hr2, own_grown h.br hg hr2, own_grown h.bn hg hr2, own_grown h.bv hg hr2, own_grown h.bo hg hr2, ?_, h.be.grown hg h.be.size fun k e => ?_⟩
  · refine Row.move h.ni (fun k _ hk => hg.block k (by have := h.bn.lt; omega) fun e => ?_) (Nat.le_refl _) (Nat.le_refl _) fun _ _ h => h
    have := (hr k e.symm).1
    omega
  · have := (hr k e).1
    omega
theorem Lk.put {g : List (List Int)} {w : World} {base b1 b5 bi lo1 hi1 m gF gL cF cL : Nat} {vn vo : Value} {pre pre' : List Nat} {W W' : World} {fi la fi' la' : List Int} (h : Lk g w base b1 b5 bi lo1 hi1 m vn (.slice (some ⟨gF, 0, none⟩) g.length cF) (.slice (some ⟨gL, 0, none⟩) g.length cL) vo pre W fi la)
    (hfl : fi'.length = g.length) (hll : la'.length = g.length) (hvw : pre' = List.range pre'.length → pre'.length ≤ m → Vw g (m - pre'.length) fi' la') (hap : Hold.Apart W' base [rowI (.slice (some ⟨gF, 0, none⟩) g.length cF) g.length fi', rowI (.slice (some ⟨gL, 0, none⟩) g.length cL) g.length la'])
    (hoth : ∀ k, k ≠ gF → k ≠ gL → W'.heap[k]? = W.heap[k]?) (hbe : Below base W W') (hF : base ≤ gF) (hL : base ≤ gL) (hh1 : hi1 ≤ base) (hw : w.heap.size ≤ base) : Lk g w base b1 b5 bi lo1 hi1 m vn (.slice (some ⟨gF, 0, none⟩) g.length cF) (.slice (some ⟨gL, 0, none⟩) g.length cL) vo pre' W' fi' la' := by
  have h2 := h.ap.head
  have h3 := (h.ap.perm (List.Perm.swap _ _ _)).head
  refine ⟨hfl, hll, hvw, hap, (hoth _ (own_ne h.br h2 (by decide)) (own_ne h.br h3 (by decide))).trans h.br, (hoth _ (own_ne h.bn h2 (by decide)) (own_ne h.bn h3 (by decide))).trans h.bn, (hoth _ (own_ne h.bv h2 (by decide)) (own_ne h.bv h3 (by decide))).trans h.bv, (hoth _ (own_ne h.bo h2 (by decide)) (own_ne h.bo h3 (by decide))).trans h.bo, ?_, h.be.trans (hbe.mono hw)⟩
  exact Row.move h.ni (fun k _ hk => hoth k (by omega) (by omega)) (Nat.le_refl _) (Nat.le_refl _) fun _ _ h => h
theorem apart_same {W W' : World} {base : Nat} {R : List Hold.Rec} (h : Hold.Apart W base R) (hs : ∀ k, base ≤ k → k < W.heap.size → W'.heap[k]? = W.heap[k]?) : Hold.Apart W' base R := by
  refine ⟨fun r hr => ?_, h.2⟩
  have h1 := h.1 r hr
  refine ⟨h1.1, ?_⟩
  rcases h1.2 with e | ⟨g, cap, cur, e, hb, hk, k⟩
  · exact .inl e
  · exact .inr ⟨g, cap, cur, e, hb, (hs g hb (Array.getElem?_eq_some_iff.1 hk).1).trans hk, k⟩
/-- what overlook answers. -/
def ViewP (g : List (List Int)) (w : World) (e : Ending) (w' : World) : Prop := ∃ vf vl fi la, e = .returned (.agg #[vf, vl]) ∧ Hold.Apart w' w.heap.size [rowI vf g.length fi, rowI vl g.length la] ∧ View g fi la ∧ Below w.heap.size w w'
set_option maxRecDepth 100000 in
set_option maxHeartbeats 8000000 in
theorem overlook_any (lo hi : Nat) (w : World) (v : Value) (g : List (List Int)) (hg : Graph lo hi w v g) (hh : hi ≤ w.heap.size) (hn : g.length ≤ 1000) :
    Calls Try.prog 17 #[v] w (ViewP g w) := by
  obtain ⟨A1, k1, rfl⟩ := Row.form hg
  obtain ⟨W0, hW0⟩ : ∃ W, w.alloc (.cells #[Value.slice none 0 0, Value.slice none 0 0] 40) = W := ⟨_, rfl⟩
  have HB0 := Lib.hid (show Below w.heap.size w W0 by rw [← hW0]; exact (Below.refl _ _).alloc (Nat.le_refl _) _)
  have HS0 := Lib.hid (show W0.heap.size = w.heap.size + 1 by rw [← hW0]; simp)
  have HR0 := Lib.hid (show Mem.Own W0 w.heap.size 40 [Value.slice none 0 0, Value.slice none 0 0] by rw [← hW0]; exact Mem.Own.made w _ _)
  have HG := Lib.hid (Graph.move (Still.of_below (HB0.out.mono hh)) hg)
  have QN := Lib.hid (near_any lo hi W0 _ g HG.out (Nat.le_trans hh HB0.out.size) hn)
  have HW0 := Lib.hid hW0
  clear hg hW0
  refine (callsIn_wide (n := 3)).1 ?_
  refine callsIn_of_wp_marks Try.func17 rfl trivial ?_ rfl
  simp only [Try.ntmps17, List.size_toArray, List.length_cons, List.length_nil, Nat.reduceAdd, Nat.reduceSub, Array.replicate_succ, Array.replicate_zero, List.push_toArray, List.append_toArray, List.nil_append, List.cons_append]
  gi_wp2
  rw [HW0.out]
  refine ⟨trivial, (callsIn_wide.2 QN.out).mono ?_⟩
  rintro e w1 ⟨vn, rfl, hon, hb1, hfix, hups⟩
  obtain ⟨An, cn, rfl⟩ := any9 hon
  have HF := Lib.hid hfix
  have HU := Lib.hid hups
  have HON := Lib.hid hon
  have HB1 := Lib.hid hb1
  have hs1 := hb1.size
  have HLT := Lib.hid (show w.heap.size < W0.heap.size by have := HS0.out; omega)
  have HR1 := Lib.hid (HR0.out.below hb1 HLT.out)
  -- the box of near
  obtain ⟨W1, hW1⟩ : ∃ W, w1.alloc (.cells #[Value.slice An g.length cn] 31) = W := ⟨_, rfl⟩
  have HW1 := Lib.hid hW1
  have HBW1 := Lib.hid (show Below w1.heap.size w1 W1 by rw [← hW1]; exact (Below.refl _ _).alloc (Nat.le_refl _) _)
  have HSW1 := Lib.hid (show W1.heap.size = w1.heap.size + 1 by rw [← hW1]; simp)
  have HN1 := Lib.hid (show Mem.Own W1 w1.heap.size 31 [Value.slice An g.length cn] by rw [← hW1]; exact Mem.Own.made w1 _ _)
  have HNI := Lib.hid (ints_own (hi := w1.heap.size) (l := nearestV g) (by rw [nearest_len]; exact hon) (Nat.le_refl _) (by rw [nearest_len]; omega))
  have HNI1 := Lib.hid (Ints.move (Still.of_below HBW1.out) HNI.out)
  have QK := Lib.hid (kids_any W0.heap.size w1.heap.size W1 _ (nearestV g) HNI1.out HBW1.out.size (by rw [nearest_len]; exact hn))

  clear hon hb1 hfix hups hW1
  have c1 := HN1.out.cell 0

  gi_wp2
  rw [HW1.out]
  refine ⟨trivial, (callsIn_wide.2 QK.out).mono ?_⟩
  rintro e w2 ⟨vk, rfl, hok, hb2⟩
  obtain ⟨Ak, ck, ek⟩ := hok.form
  rw [tree_len] at ek
  subst ek
  have HGK := Lib.hid (hok.graph (hi := w2.heap.size) (Nat.le_refl _) (by rw [tree_len]; omega) (fun l hl => by obtain ⟨i, _, rfl⟩ := List.mem_map.1 hl; have := kv_len (nearestV g) (nearestV g).length i; have := nearest_len g; omega))
  have QO := Lib.hid (order_any W1.heap.size w2.heap.size w2 _ (treeV g) HGK.out (Nat.le_refl _) (by rw [tree_len]; exact hn))
  have HB2 := Lib.hid hb2
  have HN2 := Lib.hid (HN1.out.below hb2 (by have := HSW1.out; omega))
  clear hok hb2 c1
  gi_wp2
  refine ⟨trivial, (callsIn_wide.2 QO.out).mono ?_⟩
  rintro e w3 ⟨vo, rfl, hoo, hb3⟩
  obtain ⟨Ao, co, rfl⟩ := any9 hoo
  have HOO := Lib.hid hoo
  have HB3 := Lib.hid hb3
  have HN3 := Lib.hid (HN2.out.below hb3 (by have := HSW1.out; have := HB2.out.size; omega))
  clear hoo hb3
  gi_wp2
  refine ⟨trivial, (callsIn_wide.2 (fill_any w3 g.length (-1) hn)).mono ?_⟩
  rintro e w4 ⟨v4, rfl, ho4, hb4⟩
  obtain ⟨A4, c4, rfl⟩ := any9 ho4
  have HO4 := Lib.hid ho4
  have HB4 := Lib.hid hb4
  clear ho4 hb4
  gi_wp2
  refine ⟨trivial, (callsIn_wide.2 (fill_any w4 g.length (-1) hn)).mono ?_⟩
  rintro e w5 ⟨v5, rfl, ho5, hb5⟩
  obtain ⟨A5, c5, rfl⟩ := any9 ho5
  have HO5 := Lib.hid ho5
  have HB5 := Lib.hid hb5
  clear ho5 hb5
  gi_wp2
  -- the box of the view
  obtain ⟨W6, hW6⟩ : ∃ W, w5.alloc (.cells #[Value.slice A4 g.length c4, Value.slice A5 g.length c5] 40) = W := ⟨_, rfl⟩
  have HW6 := Lib.hid hW6
  have HB6 := Lib.hid (show Below w5.heap.size w5 W6 by rw [← hW6]; exact (Below.refl _ _).alloc (Nat.le_refl _) _)
  have HS6 := Lib.hid (show W6.heap.size = w5.heap.size + 1 by rw [← hW6]; simp)
  have HV6 := Lib.hid (show Mem.Own W6 w5.heap.size 40 [Value.slice A4 g.length c4, Value.slice A5 g.length c5] by rw [← hW6]; exact Mem.Own.made w5 _ _)
  clear hW6
  rw [HW6.out]
  refine ⟨trivial, (backward_in Fence.wide 2 trivial rfl _ _ _ _).mono ?_⟩
  rintro e w7 ⟨rfl, rfl⟩
  obtain ⟨W7, hW7⟩ : ∃ W, W6.alloc (.cells #[Value.slice Ao (orderV (treeV g)).length co] 31) = W := ⟨_, rfl⟩
  have HB7 := Lib.hid (show Below W6.heap.size W6 W7 by rw [← hW7]; exact (Below.refl _ _).alloc (Nat.le_refl _) _)
  have HS7 := Lib.hid (show W7.heap.size = W6.heap.size + 1 by rw [← hW7]; simp)
  have HO7 := Lib.hid (show Mem.Own W7 W6.heap.size 31 [Value.slice Ao (orderV (treeV g)).length co] by rw [← hW7]; exact Mem.Own.made W6 _ _)
  rw [hW7]
  clear hW7
  gi_wp2
  refine' wpIn_rangeFunc_ownF rfl (by omega) (gf := 44) (lb := #[.pointer (some ⟨W6.heap.size, 0, none⟩)]) rfl trivial (enters_of Try.func44 (by kernel_rfl) rfl)
    (backward_stops Fence.wide 2 trivial rfl (by omega) W6.heap.size w2.heap.size w3.heap.size Ao co (orderV (treeV g)) (by have := order_len (treeV g); have := tree_len g; omega) W7 (by have := HS7.out; omega) (by have := HB4.out.size; have := HB5.out.size; have := HB6.out.size; have := HB7.out.size; omega) (HO7.out.cell 0) (Ints.move (Still.of_below (((HB4.out.trans (HB5.out.mono HB4.out.size)).trans (HB6.out.mono (by have := HB4.out.size; have := HB5.out.size; omega))).trans (HB7.out.mono (by have := HB4.out.size; have := HB5.out.size; have := HB6.out.size; omega)))) (ints_own HOO.out (Nat.le_refl _) (by have := order_len (treeV g); have := tree_len g; omega))))
    Kpb.trans ?hkb (Below.refl _ _) (fun _ => rfl)
    (fun pre W => ∃ fi la, Lk g w w3.heap.size w1.heap.size w5.heap.size W6.heap.size W0.heap.size w1.heap.size (orderV (treeV g)).length (.slice An g.length cn) (.slice A4 g.length c4) (.slice A5 g.length c5) (.slice Ao (orderV (treeV g)).length co) pre W fi la)
    (fun _ _ _ => False) ?hI (fun _ _ _ _ _ h _ _ => h.elim) ?h0 _ ?assign ?body ?done ?stop
  case assign =>
    intro l x W K hK
    gi_wp2
    exact hK
  case hkb =>
    intro W l o o' hl h h1 h2
    exact ⟨belowK_b (w := W7) (by have := HB4.out.size; have := HB5.out.size; have := HB6.out.size; have := HB7.out.size; omega) W l o o' hl h h1 h2, World.putObj_heap_other (by have := HS7.out; omega)⟩
  case hI =>
    rintro s A B row ⟨fi, la, h⟩ hg hr
    exact ⟨fi, la, h.grown hg hr (by have := HS7.out; have := HSW1.out; have := HB2.out.size; have := HB3.out.size; have := HB4.out.size; have := HB5.out.size; have := HB6.out.size; omega) (by have := HS7.out; have := HSW1.out; have := HB0.out.size; have := HB1.out.size; have := HB2.out.size; have := HB3.out.size; have := HB4.out.size; have := HB5.out.size; have := HB6.out.size; omega) (Nat.le_refl _)⟩
  case stop =>
    rintro D c pre W hD _ h
    exact h.elim
  case body =>
    rintro l pre x W ⟨fi, la, hL⟩ hlt
    obtain ⟨j, hj⟩ : ∃ j, (orderV (treeV g)).length - 1 - x = j := ⟨_, rfl⟩
    have hjl : j < (orderV (treeV g)).length := by omega
    have ht0 : (treeV g).length ≠ 0 := by have := order_len (treeV g); omega
    obtain ⟨q, hq⟩ : ∃ q : Nat, (orderV (treeV g))[j]? = some (q : Int) := by
      obtain ⟨y, hy⟩ : ∃ y, (orderV (treeV g))[j]? = some y := ⟨_, List.getElem?_eq_getElem hjl⟩
      obtain ⟨q, e, _⟩ := (ord_ok ht0).point y (List.mem_of_getElem? hy)
      exact ⟨q, by rw [hy, e]⟩
    have hqt : Come (treeV g) q := ord_mem.1 (List.mem_of_getElem? hq)
    have hqc : Come g q := (tree_come HF.out HU.out).1 hqt
    have hql : q < g.length := hqc.last.1
    have hpq : pos (treeV g) q = j := pos_of hq
    have hbk : bk (orderV (treeV g)) x = (j, (q : Int)) := by
      unfold bk
      rw [hj, List.getD_eq_getElem?_getD, hq]
      rfl
    rw [hbk]
    dsimp only
    obtain ⟨gF, cpF, eF, hF1, hF2, _⟩ := form9 hL.ap.head (by show 0 < g.length; omega)
    simp only [Value.slice.injEq, true_and] at eF
    obtain ⟨rfl, rfl⟩ := eF
    have hap2 := hL.ap.perm (List.Perm.swap _ _ _)
    obtain ⟨gL, cpL, eL, hL1, hL2, _⟩ := form9 hap2.head (by show 0 < g.length; omega)
    simp only [Value.slice.injEq, true_and] at eL
    obtain ⟨rfl, rfl⟩ := eL
    have hne : gF ≠ gL := by
      have := hL.ap.2
      simp [Value.ownBlock] at this
      exact this
    obtain ⟨yF, hyF⟩ : ∃ y, fi[q]? = some y := ⟨_, List.getElem?_eq_getElem (by rw [hL.fl]; exact hql)⟩
    obtain ⟨yL, hyL⟩ : ∃ y, la[q]? = some y := ⟨_, List.getElem?_eq_getElem (by rw [hL.ll]; exact hql)⟩
    have d0 := hL.bv.cell 0
    have d1 := hL.bv.cell 1
    have d2 := hL.bn.cell 0
    simp only [List.getElem?_cons_zero, List.getElem?_cons_succ] at d0 d1 d2
    have d3 := Hold.Rec.on.cell hL.ap.head rfl (j := q) (u := i64 yF) (by rw [List.getElem?_map, hyF]; rfl)
    have d3t := Hold.Rec.on.thaw hL.ap.head rfl q
    have d4 := Hold.Rec.on.cell hap2.head rfl (j := q) (u := i64 yL) (by rw [List.getElem?_map, hyL]; rfl)
    have d4t := Hold.Rec.on.thaw hap2.head rfl q
    have hL' := Lib.hid hL
    have hb5F : w5.heap.size ≠ gF := own_ne hL.bv hL.ap.head (by decide)
    have hb5L : w5.heap.size ≠ gL := own_ne hL.bv hap2.head (by decide)
    have hb6F : W6.heap.size ≠ gF := own_ne hL.bo hL.ap.head (by decide)
    have hb6L : W6.heap.size ≠ gL := own_ne hL.bo hap2.head (by decide)
    obtain ⟨Wa, hWa⟩ : ∃ Wa, W.setCell ⟨gF, q, none⟩ (i64 (j : Int)) = Wa := ⟨_, rfl⟩
    have hapA := Lib.hid (show Hold.Apart Wa w3.heap.size [rowI (.slice (some ⟨gF, 0, none⟩) g.length c4) g.length (fi.set q (j : Int)), rowI (.slice (some ⟨gL, 0, none⟩) g.length c5) g.length la] by
      have := hL.ap.store (q := q) (u := i64 (j : Int)) rfl
      rw [hWa] at this
      simpa [rowI, iC, List.map_set] using this)
    have hother : ∀ k, k ≠ gF → Wa.heap[k]? = W.heap[k]? := fun k hk => by rw [← hWa]; exact Below.heap_setCell W ⟨gF, q, none⟩ _ k hk
    have hba : Below w3.heap.size W Wa := by rw [← hWa]; exact (Below.refl _ W).setCell (p := ⟨gF, q, none⟩) hF1 _
    have hka : KeepsOthers W Wa := by rw [← hWa]; exact KeepsOthers.setCell _ _ _
    clear hap2
    have hvA := (show Mem.Own Wa w5.heap.size 40 _ from (hother _ hb5F).trans hL.bv)
    have a0 := hvA.cell 0
    have a1 := hvA.cell 1
    simp only [List.getElem?_cons_zero, List.getElem?_cons_succ] at a0 a1
    have hapB := hapA.out.perm (List.Perm.swap _ _ _)
    have a4 := Hold.Rec.on.cell hapB.head rfl (j := q) (u := i64 yL) (by rw [List.getElem?_map, hyL]; rfl)
    have a4t := Hold.Rec.on.thaw hapB.head rfl q
    have HVA := Lib.hid hvA
    have HAPB := Lib.hid hapB
    -- the second store
    obtain ⟨mx, hmx⟩ : ∃ mx, max yL (j : Int) = mx := ⟨_, rfl⟩
    obtain ⟨Wb, hWb⟩ : ∃ Wb, Wa.setCell ⟨gL, q, none⟩ (i64 mx) = Wb := ⟨_, rfl⟩
    have hapC := Lib.hid (show Hold.Apart Wb w3.heap.size [rowI (.slice (some ⟨gL, 0, none⟩) g.length c5) g.length (la.set q mx), rowI (.slice (some ⟨gF, 0, none⟩) g.length c4) g.length (fi.set q (j : Int))] by
      have := HAPB.out.store (q := q) (u := i64 mx) rfl
      rw [hWb] at this
      simpa [rowI, iC, List.map_set] using this)
    have hotherB : ∀ k, k ≠ gF → k ≠ gL → Wb.heap[k]? = W.heap[k]? := fun k hk hk2 => (by rw [← hWb]; exact Below.heap_setCell Wa ⟨gL, q, none⟩ _ k hk2 : Wb.heap[k]? = Wa.heap[k]?).trans (hother k hk)
    have hbb : Below w3.heap.size W Wb := by rw [← hWb]; exact hba.setCell (p := ⟨gL, q, none⟩) hL1 _
    have hkb : KeepsOthers W Wb := by rw [← hWb]; exact hka.trans (KeepsOthers.setCell _ _ _)
    have hvB := (show Mem.Own Wb w5.heap.size 40 _ from (hotherB _ hb5F hb5L).trans hL.bv)
    have b0 := hvB.cell 0
    have b1 := hvB.cell 1
    have hnB := (show Mem.Own Wb w1.heap.size 31 _ from (hotherB _ (own_ne hL.bn hL.ap.head (by decide)) (own_ne hL.bn (hL.ap.perm (List.Perm.swap _ _ _)).head (by decide))).trans hL.bn)
    have b2 := hnB.cell 0
    simp only [List.getElem?_cons_zero, List.getElem?_cons_succ] at b0 b1 b2
    have hsz : w.heap.size ≤ w3.heap.size ∧ w1.heap.size ≤ w3.heap.size := by
      have := HSW1.out; have := HB0.out.size; have := HB1.out.size; have := HB2.out.size; have := HB3.out.size
      omega
    have hniB : Ints W0.heap.size w1.heap.size Wb (.slice An g.length cn) (nearestV g) := Row.move hL.ni (fun k _ hk => hotherB k (by omega) (by omega)) (Nat.le_refl _) (Nat.le_refl _) fun _ _ h => h
    have hpre : ∀ k, pre ++ [x] = List.range (pre ++ [x]).length → k = pre.length → pre = List.range k ∧ x = k := fun k e ek => by
      rw [List.length_append, List.length_singleton, List.range_succ] at e
      obtain ⟨e1, e2⟩ := List.append_inj' e rfl
      subst ek
      exact ⟨e1, by simpa using e2⟩
    have hcells : ∀ r : Nat, r < g.length → ∃ y, (la.set q mx)[r]? = some y ∧ Wb.cell? ⟨gL, r, none⟩ = some (i64 y) ∧ Wb.frozen? ⟨gL, r, none⟩ = false := fun r hr => by
      obtain ⟨y, hy⟩ : ∃ y, (la.set q mx)[r]? = some y := ⟨_, List.getElem?_eq_getElem (by rw [List.length_set, hL.ll]; exact hr)⟩
      exact ⟨y, hy, Hold.Rec.on.cell hapC.out.head rfl (j := r) (u := i64 y) (by rw [List.getElem?_map, hy]; rfl), Hold.Rec.on.thaw hapC.out.head rfl r⟩
    have HHC := Lib.hid hcells
    have HNB := Lib.hid hniB
    have HPRE := Lib.hid hpre
    have HOB := Lib.hid hotherB
    have HO1 := Lib.hid hother
    have HLL := Lib.hid hL
    have HJ := Lib.hid hj
    have HPQ := Lib.hid hpq
    have HYL := Lib.hid hyL
    have HMX := Lib.hid hmx
    have HSZ := Lib.hid hsz
    clear hapB hvA hvB hnB hniB hpre hcells hotherB hother hL' hL hj hpq hyL hyF hbk hsz hq
    gi_wp2
    refine still_round 11 (by kernel_rfl) (by kernel_rfl) rfl (fun ⟨_, _, h⟩ => h) ?_
    simp only [List.take_succ_cons, List.take_zero, List.drop_succ_cons, List.drop_zero]
    repeat still_step
    try refine wpStill_nil ?_
    change wpList _ _ _ _ _ Wa.drew
    go_wp2
    gi_wp2
    · rename_i hq0
      have hq1 : q ≠ 0 := by rintro rfl; simp at hq0
      obtain ⟨p, hp, _⟩ := HF.out.up9 q hq1 hqc
      obtain ⟨_, _, hpc, _⟩ := HU.out q p hp
      have hpl := hpc.last.1
      obtain ⟨bN, oN, rfl⟩ := addr_of9 HNB.out (by omega)
      obtain ⟨cN, _, rfl, nN⟩ := cell_of HNB.out hp (Below.refl _ _)
      have n1 := nN _ rfl
      obtain ⟨y1, hy1, e1, e1t⟩ := HHC.out p hpl
      obtain ⟨y2, hy2, e2, _⟩ := HHC.out q hql
      obtain rfl : mx = y2 := by
        rw [List.getElem?_set_self (by rw [HLL.out.ll]; exact hql)] at hy2
        exact Option.some.inj hy2
      obtain ⟨my, hmy⟩ : ∃ my, max y1 mx = my := ⟨_, rfl⟩
      have hpq2 : q ≠ p := fun e => by
        have := (HU.out q p hp).2.2.2
        subst e
        omega
      have hy1' : la[p]? = some y1 := by rw [List.getElem?_set_ne hpq2] at hy1; exact hy1
      obtain ⟨Wc, hWc⟩ : ∃ Wc, Wb.setCell ⟨gL, p, none⟩ (i64 my) = Wc := ⟨_, rfl⟩
      have HAC := Lib.hid (show Hold.Apart Wc w3.heap.size [rowI (.slice (some ⟨gF, 0, none⟩) g.length c4) g.length (fi.set q (j : Int)), rowI (.slice (some ⟨gL, 0, none⟩) g.length c5) g.length ((la.set q mx).set p my)] by
        have := hapC.out.store (q := p) (u := i64 my) rfl
        rw [hWc] at this
        refine Hold.Apart.perm ?_ (List.Perm.swap _ _ _)
        simpa [rowI, iC, List.map_set] using this)
      have HOC : Hid (∀ k, k ≠ gF → k ≠ gL → Wc.heap[k]? = W.heap[k]?) := Lib.hid fun k hk hk2 => (by rw [← hWc]; exact Below.heap_setCell Wb ⟨gL, p, none⟩ _ k hk2 : Wc.heap[k]? = Wb.heap[k]?).trans (HOB.out k hk hk2)
      have hbc : Below w3.heap.size W Wc := by rw [← hWc]; exact hbb.setCell (p := ⟨gL, p, none⟩) hL1 _
      have hkc : KeepsOthers W Wc := by rw [← hWc]; exact hkb.trans (KeepsOthers.setCell _ _ _)
      have HP := Lib.hid hp
      have HY1 := Lib.hid hy1'
      have HMY := Lib.hid hmy
      clear nN hy1 hy2 hy1' hp
      obtain ⟨Wd, hWd⟩ : ∃ Wd, Wb.drew = Wd := ⟨_, rfl⟩
      rw [hWd]
      have b0 : Wd.cell? ⟨w5.heap.size, 0, none⟩ = some (Value.slice (some ⟨gF, 0, none⟩) g.length c4) := by rw [← hWd]; exact b0
      have b1 : Wd.cell? ⟨w5.heap.size, 1, none⟩ = some (Value.slice (some ⟨gL, 0, none⟩) g.length c5) := by rw [← hWd]; exact b1
      have b2 : Wd.cell? ⟨w1.heap.size, 0, none⟩ = some (Value.slice (some ⟨bN, oN, none⟩) g.length cn) := by rw [← hWd]; exact b2
      have n1 : Wd.cell? ⟨bN, oN + q, none⟩ = some (i64 (p : Int)) := by rw [← hWd]; exact n1
      have e1 : Wd.cell? ⟨gL, p, none⟩ = some (i64 y1) := by rw [← hWd]; exact e1
      have e1t : Wd.frozen? ⟨gL, p, none⟩ = false := by rw [← hWd]; exact e1t
      have e2 : Wd.cell? ⟨gL, q, none⟩ = some (i64 mx) := by rw [← hWd]; exact e2
      refine still_round 21 (by kernel_rfl) (by kernel_rfl) rfl (fun ⟨_, _, h⟩ => h) ?_
      simp only [List.take_succ_cons, List.take_zero, List.drop_succ_cons, List.drop_zero]
      repeat still_step
      try refine wpStill_nil ?_
      change wpList _ _ _ _ _ Wd.drew
      go_wp2
      have hfin : (Wb.drew.setCell ⟨gL, p, none⟩ (.int .i64 my)).drew = Wc.drew.drew := by rw [← hWc]; rfl
      subst hWd
      rw [hfin]
      exact ⟨hkc.trans ((KeepsOthers.drew _).trans (KeepsOthers.drew _)), ⟨hbc.drew.drew, HOC.out _ hb6F hb6L⟩, _, _, HLL.out.put (by rw [List.length_set]; exact HLL.out.fl) (by rw [List.length_set, List.length_set]; exact HLL.out.ll) (fun e1 e2 => by
        obtain ⟨e3, e4⟩ := HPRE.out _ e1 rfl
        rw [List.length_append, List.length_singleton] at e2 ⊢
        have hv := HLL.out.vw (by rw [e3, List.length_range]) (by omega)
        have e5 := HJ.out
        rw [show (orderV (treeV g)).length - pre.length = j + 1 by omega] at hv
        rw [show (orderV (treeV g)).length - (pre.length + 1) = j by omega, ← HMY.out, ← HMX.out]
        exact hv.step HF.out HU.out hqc HPQ.out HP.out HYL.out HY1.out) HAC.out HOC.out hbc.drew.drew hF1 hL1 HSZ.out.2 HSZ.out.1⟩
    · rename_i hq0
      obtain rfl : q = 0 := by
        rcases Nat.eq_zero_or_pos q with e | e
        · exact e
        · simp at hq0; omega
      exact ⟨hkb.trans (KeepsOthers.drew _), ⟨hbb.drew, HOB.out _ hb6F hb6L⟩, _, _, HLL.out.put (by rw [List.length_set]; exact HLL.out.fl) (by rw [List.length_set]; exact HLL.out.ll) (fun e1 e2 => by
        obtain ⟨e3, e4⟩ := HPRE.out _ e1 rfl
        rw [List.length_append, List.length_singleton] at e2 ⊢
        have hv := HLL.out.vw (by rw [e3, List.length_range]) (by omega)
        have e5 := HJ.out
        rw [show (orderV (treeV g)).length - pre.length = j + 1 by omega] at hv
        rw [show (orderV (treeV g)).length - (pre.length + 1) = j by omega, ← HMX.out]
        exact hv.zero HF.out HU.out hqc HPQ.out HYL.out) (hapC.out.perm (List.Perm.swap _ _ _)) HOB.out hbb.drew hF1 hL1 HSZ.out.2 HSZ.out.1⟩
  case h0 =>
    have s4 := HB4.out.size
    have s5 := HB5.out.size
    have s6 := HB6.out.size
    have s7 := HB7.out.size
    have s2 := HB2.out.size
    have s3 := HB3.out.size
    have s1 := HSW1.out
    have s0 := HB0.out.size
    have t7 := HS7.out
    have t6 := HS6.out
    have hb37 : Below w3.heap.size w3 W7 := ((HB4.out.trans (HB5.out.mono s4)).trans (HB6.out.mono (by omega))).trans (HB7.out.mono (by omega))
    have hb13 : Below W1.heap.size W1 w3 := HB2.out.trans (HB3.out.mono s2)
    have hb17 : Below W1.heap.size W1 W7 := hb13.trans (hb37.mono (by omega))
    have hbw17 : Below w1.heap.size w1 W7 := HBW1.out.trans (hb17.mono (by omega))
    have hb57 : Below w5.heap.size w5 W7 := HB6.out.trans (HB7.out.mono s6)
    have hap : Hold.Apart w5 w3.heap.size [rowI (.slice A5 g.length c5) g.length (List.replicate g.length (-1)), rowI (.slice A4 g.length c4) g.length (List.replicate g.length (-1))] :=
      (Dm10.one_apart (r := rowI (.slice A4 g.length c4) g.length (List.replicate g.length (-1))) HO4.out).join HB5.out (Dm10.one_apart (r := rowI (.slice A5 g.length c5) g.length (List.replicate g.length (-1))) HO5.out) s4
    refine ⟨List.replicate g.length (-1), List.replicate g.length (-1), by simp, by simp, fun _ _ => ?_, (hap.below hb57).perm (List.Perm.swap _ _ _), HR1.out.below hbw17 (by have := HLT.out; omega), HN1.out.below hb17 (by omega), HV6.out.below HB7.out (by omega), HO7.out, ?_, ?_⟩
    · exact Vw.start HF.out HU.out
    · exact Ints.move (Still.of_below hbw17) HNI.out
    · exact (HB0.out.trans (HB1.out.mono s0)).trans (hbw17.mono (by omega))
  case done =>
    rintro D xs W hD rfl ⟨fi, la, hL⟩ hK
    have hv := (hL.vw (by rw [List.length_range]) (by rw [List.length_range]; exact Nat.le_refl _))
    rw [List.length_range, Nat.sub_self] at hv
    have HV := Lib.hid (hv.view HF.out HU.out)
    have d0 := hL.bv.cell 0
    have d1 := hL.bv.cell 1
    have r0 := hL.br.cell 0
    have r1 := hL.br.cell 1
    have r0t := hL.br.thaw 0
    have r1t := hL.br.thaw 1
    simp only [List.getElem?_cons_zero, List.getElem?_cons_succ] at d0 d1 r0 r1
    have HL := Lib.hid hL
    have HK := Lib.hid hK
    clear hL hv hK
    gi_wp2
    obtain ⟨Wr, hWr⟩ : ∃ Wr, (W.setCell ⟨w.heap.size, 0, none⟩ (Value.slice A4 g.length c4)).setCell ⟨w.heap.size, 1, none⟩ (Value.slice A5 g.length c5) = Wr := ⟨_, rfl⟩
    rw [hWr]
    have hkr : KeepsOthers W Wr := by rw [← hWr]; exact (KeepsOthers.setCell _ _ _).trans (KeepsOthers.setCell _ _ _)
    have hK' := hkr.same D _ HK.out rfl
    have hor : Mem.Own Wr w.heap.size 40 [Value.slice A4 g.length c4, Value.slice A5 g.length c5] := by rw [← hWr]; exact (HL.out.br.store 0 _).store 1 _
    have hor2 := own_grown hor (grownBy_putObj' Wr D (.deferred none)) (fun r e => by cases e; exact ⟨_, hK', rfl⟩)
    have q0 := hor2.cell 0
    have q1 := hor2.cell 1
    simp only [List.getElem?_cons_zero, List.getElem?_cons_succ] at q0 q1
    have hsz : w.heap.size < w3.heap.size ∧ w.heap.size ≤ W7.heap.size := by
      have := HLT.out; have := HB1.out.size; have := HSW1.out; have := HB2.out.size; have := HB3.out.size; have := HB4.out.size; have := HB5.out.size; have := HB6.out.size; have := HB7.out.size
      omega
    have hap1 : Hold.Apart Wr w3.heap.size [rowI (.slice A4 g.length c4) g.length fi, rowI (.slice A5 g.length c5) g.length la] := apart_same HL.out.ap fun k hk _ => by
      rw [← hWr]
      exact (Below.heap_setCell _ ⟨w.heap.size, 1, none⟩ _ k (show k ≠ w.heap.size by omega)).trans (Below.heap_setCell W ⟨w.heap.size, 0, none⟩ _ k (show k ≠ w.heap.size by omega))
    have hap2 := (apart_grown hap1 (grownBy_putObj' Wr D (.deferred none)) (fun r e => by cases e; exact ⟨_, hK', rfl⟩)).lower (Nat.le_of_lt hsz.1)
    have hbr : Below w.heap.size w Wr := by
      rw [← hWr]
      exact (HL.out.be.setCell (p := ⟨w.heap.size, 0, none⟩) (Nat.le_refl _) _).setCell (p := ⟨w.heap.size, 1, none⟩) (Nat.le_refl _) _
    refine ⟨by simp, .inl ⟨_, _, rfl, run_takeDeferred hK', ?_⟩⟩
    refine ⟨.agg #[.slice A4 g.length c4, .slice A5 g.length c5], ?_, _, _, fi, la, rfl, hap2, HV.out, hbr.trans (belowK_b (w := W7) hsz.2 Wr D _ _ hD hK' rfl rfl)⟩
    simp [results, Try.f17, go_sem, q0, q1]
end Go.Proofs.Ytiohngbmddfgfaa.Lp11
