/-
  Layer 11: package loops' All.
-/
import Derived.Test.YtiohngbmddfgfaaLpBody
import Derived.Test.YtiohngbmddfgfaaLpLook
import Derived.StillTailTactics
namespace Go.Proofs.Ytiohngbmddfgfaa.Lp11
open Go.RowKit Api Mem Fl9 Dm10

abbrev LpT := Nat × List Nat × List Nat
def lpCs (vs : List (Value × Value)) (L : List LpT) : List Value := (List.zipWith (fun (p : Value × Value) (x : LpT) => [i64 (x.1 : Int), p.1, p.2]) vs L).flatten
def innL (vs : List (Value × Value)) (L : List LpT) : List Hold.Rec := (List.zipWith (fun (p : Value × Value) (x : LpT) => [innR p.1 (casts x.2.1), innR p.2 (casts x.2.2)]) vs L).flatten
abbrev outL (t : TypeId) (v : Value) (vs : List (Value × Value)) (L : List LpT) : Hold.Rec := ⟨t, 3, v, L.length, lpCs vs L⟩
/-- rows of loops that a call owns. -/
def LOwn (t : TypeId) (w : World) (base : Nat) (v : Value) (L : List LpT) : Prop := ∃ vs, vs.length = L.length ∧ Hold.Apart w base (outL t v vs L :: innL vs L)
theorem lpCs_snoc {vs : List (Value × Value)} {L : List LpT} (h : vs.length = L.length) (u k : Value) (x : LpT) : lpCs (vs ++ [(u, k)]) (L ++ [x]) = lpCs vs L ++ [i64 (x.1 : Int), u, k] := by
  unfold lpCs
  rw [List.zipWith_append h, List.flatten_append]
  rfl
theorem innL_snoc {vs : List (Value × Value)} {L : List LpT} (h : vs.length = L.length) (u k : Value) (x : LpT) : innL (vs ++ [(u, k)]) (L ++ [x]) = innL vs L ++ [innR u (casts x.2.1), innR k (casts x.2.2)] := by
  unfold innL
  rw [List.zipWith_append h, List.flatten_append]
  rfl
theorem LOwn.snoc {t : TypeId} {w : World} {base : Nat} {v u k : Value} {vs : List (Value × Value)} {L : List LpT} {x : LpT} (hv : vs.length = L.length) (h : Hold.Apart w base (⟨t, 3, v, L.length + 1, lpCs vs L ++ [i64 (x.1 : Int), u, k]⟩ :: innR u (casts x.2.1) :: innR k (casts x.2.2) :: innL vs L)) : (vs ++ [(u, k)]).length = (L ++ [x]).length ∧ Hold.Apart w base (outL t v (vs ++ [(u, k)]) (L ++ [x]) :: innL (vs ++ [(u, k)]) (L ++ [x])) := by
  refine ⟨by simp [hv], ?_⟩
  unfold outL
  rw [lpCs_snoc hv, innL_snoc hv, List.length_append, List.length_singleton]
  refine h.perm (List.Perm.cons _ ?_)
  exact List.perm_append_comm (l₁ := [innR u (casts x.2.1), innR k (casts x.2.2)]) (l₂ := innL vs L)
theorem permA {α : Type} {u n b s v : α} {I : List α} : (u :: n :: b :: s :: v :: I).Perm (n :: s :: v :: (I ++ [u, b])) :=
  (List.Perm.swap n u _).trans ((perm3.trans ((perm3.trans ((List.perm_append_comm (l₁ := [u, b]) (l₂ := I)).cons v)).cons s)).cons n)
theorem outL_snoc {t : TypeId} {v u k : Value} {vs : List (Value × Value)} {L : List LpT} {x : LpT} (hv : vs.length = L.length) : (⟨t, 3, v, L.length + 1, lpCs vs L ++ [i64 (x.1 : Int), u, k]⟩ : Hold.Rec) = outL t v (vs ++ [(u, k)]) (L ++ [x]) := by
  unfold outL
  rw [lpCs_snoc hv, List.length_append, List.length_singleton]
/-- the loops of the heads below k. -/
def lpsV (g : List (List Int)) (k : Nat) : List LpT := ((List.range k).filter fun h => !(backL g h).isEmpty).map fun h => (h, bodyL g h, backL g h)
theorem lps_succ (g : List (List Int)) (k : Nat) : lpsV g (k + 1) = lpsV g k ++ if (backL g k).isEmpty = true then [] else [(k, bodyL g k, backL g k)] := by
  unfold lpsV
  rw [List.range_succ, List.filter_append, List.map_append]
  congr 1
  cases h : (backL g k).isEmpty <;> simp [h]
theorem lps_all (g : List (List Int)) : lpsV g g.length = loopsV g := rfl
theorem lps_len (g : List (List Int)) (k : Nat) : (lpsV g k).length ≤ k := by
  unfold lpsV
  rw [List.length_map]
  have := List.length_filter_le (fun h => !(backL g h).isEmpty) (List.range k)
  rwa [List.length_range] at this
theorem info_loop : (Try.prog.info? 33).map (fun i => (i.zero, i.size, i.bytes)) = some (some (.agg #[.int .i64 0, .slice none 0 0, .slice none 0 0]), 3, 56) := by kernel_rfl
/-- what All answers. -/
def AllLP (g : List (List Int)) (w : World) (e : Ending) (w' : World) : Prop := ∃ v, e = .returned v ∧ LOwn 33 w' w.heap.size v (loopsV g) ∧ Below w.heap.size w w'
set_option maxRecDepth 100000 in
set_option maxHeartbeats 8000000 in
theorem lall_any (lo hi : Nat) (w : World) (v : Value) (g : List (List Int)) (hg : Graph lo hi w v g) (hh : hi ≤ w.heap.size) (hn : g.length ≤ 1000) :
    Calls Try.prog 9 #[v] w (AllLP g w) := by
  obtain ⟨A1, k1, rfl⟩ := Row.form hg
  obtain ⟨il, hl1, hl2, hl3, hl4⟩ := info_parts info_loop
  have HIL : Hid (Try.prog.info? 33 = some il ∧ il.zero = some (.agg #[.int .i64 0, .slice none 0 0, .slice none 0 0]) ∧ il.size = 3 ∧ il.bytes = 56) := Lib.hid ⟨hl1, hl2, hl3, hl4⟩
  have HG := Lib.hid hg
  have QC := Lib.hid (comers_any lo hi w _ g hg hh hn)
  clear hg hl1 hl2 hl3 hl4
  go_enter Try.func9, Try.ntmps9
  go_wp2_with fail
  refine QC.out.mono ?_
  rintro e w1 ⟨vF, rfl, hof, hb1⟩
  have HB1 := Lib.hid hb1
  have hs1 := hb1.size
  have HGF := Lib.hid (hof.graph (hi := w1.heap.size) (Nat.le_refl _) (by rw [from_len]; omega) (fun l hl => by
    obtain ⟨i, hi⟩ := List.mem_iff_getElem?.1 hl
    have hil := (List.getElem?_eq_some_iff.1 hi).1
    rw [from_len] at hil
    rw [from_at hil] at hi
    have := fl_len g i
    cases hi
    omega))
  have QL := Lib.hid (overlook_any lo hi w1 _ g (Graph.move (Still.of_below (hb1.mono hh)) HG.out) (Nat.le_trans hh hs1) hn)
  obtain ⟨AF, cF, eF⟩ := hof.form
  rw [from_len] at eF
  subst eF
  clear hof hb1
  go_wp2_with fail
  refine QL.out.mono ?_
  rintro e w2 ⟨vf, vl, fi, la, rfl, hap2, hvw, hb2⟩
  have HB2 := Lib.hid hb2
  have hs2 := hb2.size
  have HV := Lib.hid hvw
  have HVF := Lib.hid (Ints.move (Still.wide w2 (Nat.le_refl _) (Nat.le_refl _)) (ints_own (hi := w2.heap.size) (l := fi) (by have := hap2.head; unfold Hold.Rec.on at this; rw [hvw.fl]; exact this) (Nat.le_refl _) (by rw [hvw.fl]; omega)))
  have HVL := Lib.hid (ints_own (hi := w2.heap.size) (l := la) (by have := (hap2.perm (List.Perm.swap _ _ _)).head; unfold Hold.Rec.on at this; rw [hvw.ll]; exact this) (Nat.le_refl _) (by rw [hvw.ll]; omega))
  obtain ⟨Af, kf, ef⟩ := Row.form HVF.out
  rw [hvw.fl] at ef
  subst ef
  obtain ⟨Al, kl, el⟩ := Row.form HVL.out
  rw [hvw.ll] at el
  subst el
  -- the box of the view
  obtain ⟨Wb, hWb⟩ : ∃ W, w2.alloc (.cells #[Value.slice none 0 0, Value.slice none 0 0] 40) = W := ⟨_, rfl⟩
  have hob : Mem.Own Wb w2.heap.size 40 [Value.slice none 0 0, Value.slice none 0 0] := by rw [← hWb]; exact Own.made w2 _ _
  have hbb : Below w2.heap.size w2 Wb := by rw [← hWb]; exact up11 w2 _
  have p0 := hob.cell 0
  have p1 := hob.cell 1
  have p0t := hob.thaw 0
  have p1t := hob.thaw 1
  simp only [List.getElem?_cons_zero, List.getElem?_cons_succ] at p0 p1
  obtain ⟨Wc, hWc⟩ : ∃ W, (Wb.setCell ⟨w2.heap.size, 0, none⟩ (Value.slice Af g.length kf)).setCell ⟨w2.heap.size, 1, none⟩ (Value.slice Al g.length kl) = W := ⟨_, rfl⟩
  have hoc : Mem.Own Wc w2.heap.size 40 [Value.slice Af g.length kf, Value.slice Al g.length kl] := by rw [← hWc]; exact (hob.store 0 _).store 1 _
  have hbc : Below w2.heap.size w2 Wc := by
    rw [← hWc]
    exact (hbb.setCell (p := ⟨w2.heap.size, 0, none⟩) (Nat.le_refl _) _).setCell (p := ⟨w2.heap.size, 1, none⟩) (Nat.le_refl _) _
  have QF := Lib.hid (fill_any Wc g.length (-1) hn)
  have HOC := Lib.hid hoc
  have HBC := Lib.hid hbc
  clear hap2 hvw hb2 hob hbb hoc hbc
  go_wp2_with fail
  clear hWb hWc p0 p1 p0t p1t
  refine QF.out.mono ?_
  rintro e w3 ⟨vo, rfl, hoo, hb3⟩
  obtain ⟨Ao, co, rfl⟩ := any9 hoo
  have hs3 := hb3.size
  have hsc := HBC.out.size
  -- the box of the search
  obtain ⟨Wd, hWd⟩ : ∃ W, w3.alloc (.cells #[Value.slice none 0 0, Value.slice none 0 0] 44) = W := ⟨_, rfl⟩
  have hod : Mem.Own Wd w3.heap.size 44 [Value.slice none 0 0, Value.slice none 0 0] := by rw [← hWd]; exact Own.made w3 _ _
  have hbd : Below w3.heap.size w3 Wd := by rw [← hWd]; exact up11 w3 _
  have p0 := hod.cell 0
  have p1 := hod.cell 1
  have p0t := hod.thaw 0
  have p1t := hod.thaw 1
  simp only [List.getElem?_cons_zero, List.getElem?_cons_succ] at p0 p1
  obtain ⟨We, hWe⟩ : ∃ W, (Wd.setCell ⟨w3.heap.size, 0, none⟩ (Value.slice AF g.length cF)).setCell ⟨w3.heap.size, 1, none⟩ (Value.slice Ao g.length co) = W := ⟨_, rfl⟩
  have hoe : Mem.Own We w3.heap.size 44 [Value.slice AF g.length cF, Value.slice Ao g.length co] := by rw [← hWe]; exact (hod.store 0 _).store 1 _
  have hbe : Below w3.heap.size w3 We := by
    rw [← hWe]
    exact (hbd.setCell (p := ⟨w3.heap.size, 0, none⟩) (Nat.le_refl _) _).setCell (p := ⟨w3.heap.size, 1, none⟩) (Nat.le_refl _) _
  have hlc : w2.heap.size < Wc.heap.size := HOC.out.lt
  have hbx1 : Wc.ownsRow w2.heap.size 40 2 (.slice (some ⟨w2.heap.size, 0, none⟩) 1 1) 1 [Value.slice Af g.length kf, Value.slice Al g.length kl] := ⟨rfl, .inr ⟨w2.heap.size, 1, _, rfl, Nat.le_refl _, HOC.out, Nat.le_refl _, by unfold maxLen; omega, rfl, rfl⟩⟩
  have hbx2 : We.ownsRow w3.heap.size 44 2 (.slice (some ⟨w3.heap.size, 0, none⟩) 1 1) 1 [Value.slice AF g.length cF, Value.slice Ao g.length co] := ⟨rfl, .inr ⟨w3.heap.size, 1, _, rfl, Nat.le_refl _, hoe, Nat.le_refl _, by unfold maxLen; omega, rfl, rfl⟩⟩
  have HAE := Lib.hid (show Hold.Apart We w2.heap.size [box2 44 w3.heap.size (Value.slice AF g.length cF) (Value.slice Ao g.length co), rowN (.slice Ao g.length co) g.length (List.replicate g.length (-1)), box2 40 w2.heap.size (Value.slice Af g.length kf) (Value.slice Al g.length kl)] from
    (((one_apart (r := box2 40 w2.heap.size (Value.slice Af g.length kf) (Value.slice Al g.length kl)) hbx1).join hb3 (one_apart (r := rowN (.slice Ao g.length co) g.length (List.replicate g.length (-1))) hoo) hsc).join hbe (one_apart (r := box2 44 w3.heap.size (Value.slice AF g.length cF) (Value.slice Ao g.length co)) hbx2) (by omega)))
  have HBE := Lib.hid (show Below w2.heap.size w2 We from (HBC.out.trans (hb3.mono hsc)).trans (hbe.mono (by omega)))
  have HAE2 := Lib.hid (show Hold.Apart We w2.heap.size (outL 33 (.slice none 0 0) [] [] :: rowN (.slice Ao g.length co) g.length (List.replicate g.length (-1)) :: box2 44 w3.heap.size (Value.slice AF g.length cF) (Value.slice Ao g.length co) :: box2 40 w2.heap.size (Value.slice Af g.length kf) (Value.slice Al g.length kl) :: innL [] []) from (HAE.out.perm (List.Perm.swap _ _ _)).empty 33 3)
  clear hoo hb3 hod hbd hoe hbe hbx1 hbx2
  go_wp2_with fail
  have HGF2 := Lib.hid (Graph.move (⟨fun k _ hk => HB2.out.block k hk, Nat.zero_le _, hs2⟩ : Still w.heap.size w1.heap.size 0 w2.heap.size w1 w2) HGF.out)
  have HVF2 := Lib.hid (Ints.move (Still.wide w2 (Nat.zero_le _) (Nat.le_refl _)) HVF.out)
  have HVL2 := Lib.hid (Ints.move (Still.wide w2 (Nat.zero_le _) (Nat.le_refl _)) HVL.out)
  have HI0 := Lib.hid (show ([] : List (Value × Value)).length = (lpsV g 0).length ∧ (List.replicate g.length (-1 : Int)).length = g.length ∧ ∀ (q : Nat) (x : Int), (List.replicate g.length (-1 : Int))[q]? = some x → x < ((0 : Nat) : Int) from ⟨rfl, by simp, fun q x h => by
    rw [List.getElem?_replicate] at h
    split at h
    · cases h; decide
    · cases h⟩)
  clear hWd hWe p0 p1 p0t p1t
  go_loopw [6, 20] (fun va kv wr => ∃ (k : Nat) (vs : List (Value × Value)) (ofs : List Int), k ≤ g.length ∧ kv = .int .i64 k ∧ Hid (vs.length = (lpsV g k).length ∧ ofs.length = g.length ∧ ∀ (q : Nat) (x : Int), ofs[q]? = some x → x < (k : Int)) ∧ Hid (Hold.Apart wr w2.heap.size (outL 33 va vs (lpsV g k) :: rowN (.slice Ao g.length co) g.length ofs :: box2 44 w3.heap.size (Value.slice AF g.length cF) (Value.slice Ao g.length co) :: box2 40 w2.heap.size (Value.slice Af g.length kf) (Value.slice Al g.length kl) :: innL vs (lpsV g k))) ∧ Hid (Below w2.heap.size w2 wr)) (fun _ kv _ => g.length - (intOf kv).toNat)
  case atStart => exact ⟨0, [], _, Nat.zero_le _, rfl, HI0, HAE2, HBE⟩
  case round =>
  obtain ⟨k, vs, ofs, hk, rfl, HI, HA, HBr⟩ := hrel
  obtain ⟨Aa, ca, hva⟩ := HA.out.head.form
  simp only at hva
  subst hva
  by_cases hlt : k < g.length
  · have hfil := HV.out.fl
    have hlal := HV.out.ll
    obtain ⟨bF, oF, rfl⟩ := addr_of9 HGF2.out (by omega)
    obtain ⟨A9, k9, kx, hcx⟩ := graph_cell HGF2.out (from_at hlt)
    have d1 := hcx wr HBr.out
    have hbx := HA.out.1 (box2 40 w2.heap.size (Value.slice Af g.length kf) (Value.slice Al g.length kl)) (by simp)
    have d2 := Hold.Rec.on.cell hbx rfl (j := 0) (u := Value.slice Af g.length kf) rfl
    have d3 := Hold.Rec.on.cell hbx rfl (j := 1) (u := Value.slice Al g.length kl) rfl
    have hbr := HBr.out.size
    have HBd := Lib.hid HBr.out.drew
    have HAd := Lib.hid (show Hold.Apart wr.drew w2.heap.size _ from ⟨HA.out.1, HA.out.2⟩)
    have QT := Lib.hid (those_any 0 w2.heap.size wr.drew _ _ _ fi la (fl g k) (Ints.move (Still.of_below HBd.out) HVF2.out) (Ints.move (Still.of_below HBd.out) HVL2.out) (Ints.move (Still.of_below HBd.out) kx) hbr k (by have := HV.out.fl; omega) (by have := HV.out.ll; omega) (fun x hx => by
      obtain ⟨p, e, hp, _⟩ := fl_mem.1 hx
      exact ⟨p, e, by have := hp.last.1; have := HV.out.fl; omega⟩) (by have := fl_len g k; omega))
    rw [those_back HV.out hlt] at QT
    clear hbx kx hcx
    go_wp2_with fail
    go_still_tail 6, (by kernel_rfl)
    change wpList _ _ _ _ _ wr.drew
    go_wp2_with fail
    refine QT.out.mono ?_
    rintro e w5 ⟨vb, rfl, hob, hb5⟩
    obtain ⟨Ab, cb, rfl⟩ := any9 hob
    have HA5 := Lib.hid (HAd.out.join (R2 := [innR (.slice Ab (casts (backL g k)).length cb) (casts (backL g k))]) hb5 (one_apart (r := innR (.slice Ab (casts (backL g k)).length cb) (casts (backL g k))) hob) hbr)
    have HB5 := Lib.hid (HBd.out.trans (hb5.mono hbr))
    have hs5 := HB5.out.size
    clear hob hb5
    by_cases he : backL g k = []
    · have HL0 := Lib.hid (show lpsV g (k + 1) = lpsV g k by rw [lps_succ, he]; simp)
      have hln : (casts (backL g k)).length = 0 := by rw [he]; rfl
      have HA6 := Lib.hid HA5.out.tail
      have HI2 := Lib.hid (show vs.length = (lpsV g (k + 1)).length ∧ ofs.length = g.length ∧ ∀ (q : Nat) (x : Int), ofs[q]? = some x → x < ((k + 1 : Nat) : Int) from ⟨by rw [HL0.out]; exact HI.out.1, HI.out.2.1, fun q x h => by have := HI.out.2.2 q x h; omega⟩)
      rw [hln]
      clear he hln
      go_wp2_with fail
      go_roundw
      case rel => exact ⟨k + 1, vs, ofs, by omega, by go_num, HI2, by rw [HL0.out]; exact HA6, HB5⟩
      case measure => simp [intOf]; omega
    · have hlp : 0 < (casts (backL g k)).length := by rw [casts_len]; exact List.length_pos_iff.2 he
      have hcm : Come g k := by
        obtain ⟨b, hb⟩ := List.exists_mem_of_ne_nil _ he
        exact (backL_mem.1 hb).2.2.come
      have HA6 := Lib.hid (HA5.out.perm perm3)
      have QB := Lib.hid (body_any 0 w2.heap.size w5 (Value.slice (some ⟨bF, oF, none⟩) g.length cF) (.slice Ao g.length co) (.slice Ab (casts (backL g k)).length cb) g w2.heap.size (outL 33 (.slice Aa (lpsV g k).length ca) vs (lpsV g k) :: box2 44 w3.heap.size (Value.slice (some ⟨bF, oF, none⟩) g.length cF) (Value.slice Ao g.length co) :: box2 40 w2.heap.size (Value.slice Af g.length kf) (Value.slice Al g.length kl) :: innL vs (lpsV g k)) k ofs (Graph.move (Still.of_below HB5.out) HGF2.out) (Nat.le_refl _) hs5 hn HA6.out he HI.out.2.1 (fun q h => by have := HI.out.2.2 q _ h; omega) hcm)
      have hbx := HA6.out.1 (box2 44 w3.heap.size (Value.slice (some ⟨bF, oF, none⟩) g.length cF) (Value.slice Ao g.length co)) (by simp)
      have d4 := Hold.Rec.on.cell hbx rfl (j := 0) (u := Value.slice (some ⟨bF, oF, none⟩) g.length cF) rfl
      have d5 := Hold.Rec.on.cell hbx rfl (j := 1) (u := Value.slice Ao g.length co) rfl
      have HE := Lib.hid he
      clear hbx he
      go_wp2_with fail
      refine QB.out.mono ?_
      rintro e w6 ⟨u, of2, rfl, ha6, hol6, hof6, hb6⟩
      obtain ⟨Au, cu, hu⟩ := ha6.head.form
      simp only at hu
      subst hu
      have HA7 := Lib.hid (ha6.perm perm4)
      have HB7 := Lib.hid (HB5.out.trans (hb6.mono (Nat.le_refl _)))
      have hs7 := HB7.out.size
      have HOF := Lib.hid (And.intro hol6 hof6)
      have hll := lps_len g k
      clear ha6 hb6 hol6 hof6
      go_wp2_with (at_builtin; refine Hold.wpList_grow (R := innR (.slice Au (casts (bodyL g k)).length cu) (casts (bodyL g k)) :: rowN (.slice Ao g.length co) g.length of2 :: innR (.slice Ab (casts (backL g k)).length cb) (casts (backL g k)) :: box2 44 w3.heap.size (Value.slice (some ⟨bF, oF, none⟩) g.length cF) (Value.slice Ao g.length co) :: box2 40 w2.heap.size (Value.slice Af g.length kf) (Value.slice Al g.length kl) :: innL vs (lpsV g k)) rfl _ _ 28 rfl w2.heap.size (outL 33 (.slice Aa (lpsV g k).length ca) vs (lpsV g k)) il _ 56 Try.underlying28 HIL.out.1 HIL.out.2.1 HIL.out.2.2.1 HIL.out.2.2.2 rfl (by show 0 < 3; omega) rfl HA7.out [i64 (k : Int), .slice Au (casts (bodyL g k)).length cu, .slice Ab (casts (backL g k)).length cb] _ rfl rfl rfl (by intro u hu; simp only [List.mem_cons, List.not_mem_nil, or_false] at hu; rcases hu with rfl | rfl | rfl <;> rfl) (by show (lpsV g k).length + 1 ≤ _; omega) (by show ((lpsV g k).length + 1) * 56 ≤ _; omega) hs7 ?_; intro v8 w8 hA8 hB8; have HA8 := Lib.hid hA8; have HB8 := Lib.hid (HB7.out.trans hB8); clear hA8 hB8)
      have HLS := Lib.hid (show lpsV g (k + 1) = lpsV g k ++ [(k, bodyL g k, backL g k)] by
        rw [lps_succ, if_neg (by rw [List.isEmpty_iff]; exact HE.out)])
      go_roundw
      case rel =>
        refine ⟨k + 1, vs ++ [(.slice Au (casts (bodyL g k)).length cu, .slice Ab (casts (backL g k)).length cb)], of2, by omega, by go_num, Lib.hid ⟨?_, HOF.out.1, fun q x h => ?_⟩, Lib.hid ?_, HB8⟩
        · rw [HLS.out, List.length_append, List.length_append, HI.out.1]; rfl
        · rcases HOF.out.2 q x h with h1 | h1
          · have := HI.out.2.2 q x h1; omega
          · omega
        · have h9 := HA8.out
          rw [HLS.out, innL_snoc HI.out.1, ← outL_snoc HI.out.1]
          exact h9.perm (permA.cons _)
      case measure => simp [intOf]; omega
  · have hke : k = g.length := by omega
    have hs := HBr.out.size
    obtain ⟨hI1, _, _⟩ := HI.out
    have HFIN := Lib.hid (show LOwn 33 wr w2.heap.size (.slice Aa (lpsV g k).length ca) (loopsV g) from ⟨vs, by rw [← lps_all, ← hke]; exact hI1, by
      rw [← lps_all, ← hke]
      exact HA.out.sub (.cons_cons _ (.cons _ (.cons _ (.cons _ (List.Sublist.refl _)))))⟩)
    clear hke hI1
    go_wp2_with fail
    go_ret
    obtain ⟨vs2, h1, h2⟩ := HFIN.out
    exact ⟨_, rfl, ⟨vs2, h1, h2.lower (Nat.le_trans hs1 hs2)⟩, (HB1.out.trans (HB2.out.mono hs1)).trans (HBr.out.mono (Nat.le_trans hs1 hs2))⟩
end Go.Proofs.Ytiohngbmddfgfaa.Lp11
