/-
  Layer 15: the document's New and Store.
-/
import Derived.Test.YtclikfeaodfmkaaHpMoved
import Derived.Test.YtclikfeaodfmkaaHpStore
namespace Go.Proofs.Ytclikfeaodfmkaa.Hp15
open Go.RowKit Api Mem

theorem apart_one {w : World} {base : Nat} {r : Hold.Rec} (h : r.on w base) : Hold.Apart w base [r] := by
  refine ⟨fun x hx => by rw [List.mem_singleton] at hx; subst hx; exact h, ?_⟩
  cases e : r.v.ownBlock <;> simp [e]
def RNewP (H : Hp) (x : Ob) (w : World) (e : Ending) (w' : World) : Prop := ∃ v, e = .returned (.tuple #[v, vlA ⟨wRef, (H.length : Int) + 1⟩]) ∧ Obs 0 w'.heap.size w' v (H ++ [x]) ∧ Below w.heap.size w w'
/-- what is written, field by field. -/
def PwP (H : Hp) (o : Vl) (at_ : Int) (y : Vl) (ok : Bool) (H' : Hp) : Prop := ∀ (k : Nat) (x : Ob), H[k]? = some x → ∃ x', H'[k]? = some x' ∧ x'.cls = x.cls ∧ x'.vals.length = x.vals.length ∧ ∀ (j : Nat) (z : Vl), x.vals[j]? = some z → x'.vals[j]? = some (if ok = true ∧ (k : Int) + 1 = o.n ∧ (j : Int) = at_ then y else z)
theorem set_pw {H : Hp} {o r : Vl} {at_ : Int} {ok : Bool} (y : Vl) (f : FieldP H o at_ r ok) : ∃ H', SetP H o at_ y H' ok ∧ H'.length = H.length ∧ PwP H o at_ y ok H' := by
  rcases f with ⟨rfl, hf, _⟩ | ⟨rfl, hf, _⟩
  · have hF := hf
    obtain ⟨⟨_, a2, a3⟩, b2, x, hx, b3⟩ := hf
    have hi := (List.getElem?_eq_some_iff.1 hx).1
    refine ⟨_, .inl ⟨rfl, hF, x, hx, rfl⟩, List.length_set, fun k z hz => ?_⟩
    by_cases e : plH o = k
    · subst e
      rw [hx] at hz
      cases hz
      refine ⟨_, List.getElem?_set_self hi, rfl, List.length_set, fun j z hz => ?_⟩
      have hj := (List.getElem?_eq_some_iff.1 hz).1
      by_cases e2 : (j : Int) = at_
      · rw [if_pos ⟨rfl, by unfold plH; omega, e2⟩]
        subst e2
        exact List.getElem?_set_self hj
      · rw [if_neg (fun c => e2 c.2.2)]
        exact (List.getElem?_set_ne (by omega)).trans hz
    · refine ⟨z, (List.getElem?_set_ne e).trans hz, rfl, rfl, fun j u hu => ?_⟩
      rw [if_neg (fun c => e (by have := c.2.1; unfold plH; omega))]
      exact hu
  · exact ⟨H, .inr ⟨rfl, hf, rfl⟩, rfl, fun k x hx => ⟨x, hx, rfl, rfl, fun j z hz => by rw [if_neg (fun c => (by cases c.1))]; exact hz⟩⟩
set_option maxRecDepth 100000 in
set_option maxHeartbeats 8000000 in
theorem rstore_any (lo hi : Nat) (w : World) (v : Value) (H : Hp) (o : Vl) (at_ : Int) (y : Vl) (hv : Obs lo hi w v H) (hh : hi ≤ w.heap.size) (hG : hpG H) (hF : FewH H) :
    Calls Try.prog 6 #[v, vlA o, i64 at_, vlA y] w (StoreRP H o at_ y w) := by
  obtain ⟨A1, k1, rfl⟩ := Row.form hv
  obtain ⟨W, hW⟩ : ∃ W, (w.alloc (.cells #[str o.ty, i64 o.n] 25)).alloc (.cells #[str y.ty, i64 y.n] 25) = W := ⟨_, rfl⟩
  have HBW := Lib.hid (show Below w.heap.size w W from hW ▸ (up15 w _).trans ((up15 _ _).mono (by simp)))
  have HO := Lib.hid (show Mem.Own W w.heap.size 25 [str o.ty, i64 o.n] from hW ▸ (Own.made w _ _).alloc _)
  have HR := Lib.hid (show Mem.Own W (w.heap.size + 1) 25 [str y.ty, i64 y.n] from hW ▸ (show w.heap.size + 1 = (w.alloc (.cells #[str o.ty, i64 o.n] 25)).heap.size by simp) ▸ Own.made _ _ _)
  have HW := Lib.hid hW
  have HV := Lib.hid hv
  have HGG := Lib.hid hG
  have HL := Lib.hid hF
  have hla := hF.1
  obtain ⟨iv, hi1, hi2, hi3, hi4⟩ := info_parts info_val
  have HIV : Hid (Try.prog.info? 25 = some iv ∧ iv.zero = some (.agg #[str [], i64 0]) ∧ iv.size = 2 ∧ iv.bytes = 24) := Lib.hid ⟨hi1, hi2, hi3, hi4⟩
  obtain ⟨io, hj1, hj2, hj3, hj4⟩ := info_parts info_obj
  have HIO : Hid (Try.prog.info? 33 = some io ∧ io.zero = some (.agg #[str [], .slice none 0 0]) ∧ io.size = 2 ∧ io.bytes = 40) := Lib.hid ⟨hj1, hj2, hj3, hj4⟩
  clear hv hW hG hF hi1 hi2 hi3 hi4 hj1 hj2 hj3 hj4
  go_enter Try.func6, Try.ntmps6
  go_wp2_with fail
  rw [HW.out]
  obtain ⟨_, p0, p1, _, _, _⟩ := box2 HO.out (Below.refl _ _)
  clear p0 p1
  refine (rload_any lo hi W _ H (Obs.move (Still.of_below (HBW.out.mono hh)) HV.out) (Nat.le_trans hh HBW.out.size) o at_).mono ?_
  rintro e w1 ⟨r0, ok, rfl, hf, hb1⟩
  obtain ⟨H', hs, hl2, hpw⟩ := set_pw y hf
  obtain ⟨X1, hX1⟩ : ∃ X, w1.alloc (Obj.cells #[str r0.ty, i64 r0.n] 25) = X := ⟨_, rfl⟩
  have hb2 : Below W.heap.size W X1 := hb1.trans ((show Below w1.heap.size w1 X1 from hX1 ▸ up15 w1 _).mono hb1.size)
  have HB1 := Lib.hid (HBW.out.trans (hb2.mono HBW.out.size))
  have HO1 := Lib.hid (HO.out.below hb2 HO.out.lt)
  have HR1 := Lib.hid (HR.out.below hb2 HR.out.lt)
  have HS := Lib.hid hs
  have HL2 := Lib.hid hl2
  have HP := Lib.hid hpw
  have HWS := Lib.hid HB1.out.size
  have HX1 := Lib.hid hX1
  clear hf hb1 hb2 hs hl2 hpw hX1
  go_wp2_with fail
  rw [HX1.out]
  go_loopw [12, 13] (fun vo i wr => ∃ (d : Nat) (us : List Value), d ≤ H.length ∧ i = .int .i64 d ∧ us.length = d ∧ Hid (Hold.Apart wr X1.heap.size (⟨33, 2, vo, d, obC us (H'.take d)⟩ :: inns us (H'.take d))) ∧ Hid (Below w.heap.size w wr) ∧ Hid (Below X1.heap.size X1 wr)) (fun _ i _ => H.length - (intOf i).toNat)
  case atStart => exact ⟨0, [], Nat.zero_le _, rfl, rfl, Lib.hid (apart_one (World.ownsRow_nil _ _ _ _)), HB1, Lib.hid (Below.refl _ _)⟩
  case round =>
  obtain ⟨d, us, hd, rfl, hul, HAP, HBr, HBx⟩ := hrel
  have HUL := Lib.hid hul
  clear hul
  obtain ⟨Ao, co, hvo9⟩ := HAP.out.head.form
  simp only at hvo9
  subst hvo9
  by_cases hlt : d < H.length
  · obtain ⟨x, ho⟩ : ∃ x, H[d]? = some x := ⟨_, List.getElem?_eq_getElem hlt⟩
    obtain ⟨b1, o1, rfl, _⟩ := addr2 HV.out (by omega)
    obtain ⟨A3, k3, hvo, hc⟩ := ob_at HV.out ho
    obtain ⟨m1, m2⟩ := hc wr (HBr.out.mono hh)
    obtain ⟨x', hx1, hx2, hx3, hx4⟩ := HP.out d x ho
    have HC := Lib.hid hc
    have HVO := Lib.hid hvo
    have HX' := Lib.hid hx1
    have HXc := Lib.hid hx2
    have HXl := Lib.hid hx3
    have HXv := Lib.hid hx4
    have ml := World.block_lt_of_cell? wr _ m1
    simp only at ml
    have hol := HL.out.2 x (List.mem_of_getElem? ho)
    clear ho hc hvo hx1 hx2 hx3 hx4
    obtain ⟨wo, hwo⟩ : ∃ wo, wo = wr := ⟨_, rfl⟩
    subst hwo
    go_wp2_with fail
    obtain ⟨W2, hW2⟩ : ∃ W, wo.alloc (Obj.cells #[.string ⟨x.cls.toArray⟩, .slice none 0 0] 33) = W := ⟨_, rfl⟩
    have HBX := Lib.hid (show Mem.Own W2 wo.heap.size 33 [str x.cls, .slice none 0 0] from hW2 ▸ Own.made wo _ _)
    have HWR := Lib.hid (show Below wo.heap.size wo W2 from hW2 ▸ up15 wo _)
    rw [hW2]
    clear hW2
    go_loopw [15] (fun j wr => ∃ (m : Nat) (vv : Value), m ≤ x.vals.length ∧ j = .int .i64 m ∧ Hid (Mem.Own wr wo.heap.size 33 [str x.cls, vv]) ∧ Hid (VOwn wr (wo.heap.size + 1) vv (x'.vals.take m)) ∧ Hid (Below wo.heap.size wo wr)) (fun j _ => x.vals.length - (intOf j).toNat)
    case atStart => exact ⟨0, .slice none 0 0, Nat.zero_le _, rfl, HBX, Lib.hid (World.ownsRow_nil _ _ _ _), HWR⟩
    case round =>
    obtain ⟨m, vv, hm, rfl, HB2, HVW, HR2⟩ := hrel
    obtain ⟨Av, cv, ev⟩ := HVW.out.form
    rw [List.length_take, HXl.out, Nat.min_eq_left hm] at ev
    subst ev
    have HX2 := Lib.hid (HBr.out.trans (HR2.out.mono HBr.out.size))
    have HY2 := Lib.hid (HBx.out.trans (HR2.out.mono HBx.out.size))
    obtain ⟨n1, n2⟩ := HC.out wr (HX2.out.mono hh)
    obtain ⟨_, p0, p1, p2, p3, p4⟩ := box2 HB2.out (Below.refl _ _)
    have HO2 := Lib.hid (HO1.out.below HY2.out HO1.out.lt)
    have HR3 := Lib.hid (HR1.out.below HY2.out HR1.out.lt)
    obtain ⟨_, s0, s1, s2, s3, s4⟩ := box2 HO2.out (Below.refl _ _)
    obtain ⟨_, t0, t1, t2, t3, t4⟩ := box2 HR3.out (Below.refl _ _)
    by_cases hlt2 : m < x.vals.length
    · obtain ⟨z, hz⟩ : ∃ z, x.vals[m]? = some z := ⟨_, List.getElem?_eq_getElem hlt2⟩
      obtain ⟨b2, o2, rfl, _⟩ := addr2 HVO.out (by omega)
      obtain ⟨q0, q1⟩ := vl_at HVO.out hz (HX2.out.mono hh)
      have HVM := Lib.hid (HXv.out m z hz)
      clear hz
      have QA := Lib.hid (fun (wq : World) (hb : Below wr.heap.size wr wq) => (apart_one (r := ⟨25, 2, .slice Av m cv, m, pcV (x'.vals.take m)⟩) (w := wq) (base := wo.heap.size + 1) (by have := HVW.out.below hb; unfold VOwn at this; rw [List.length_take, HXl.out, Nat.min_eq_left hm] at this; exact this)))
      cases ok with
      | false =>
        have HV1 := Lib.hid (show x'.vals[m]? = some z by
          have := HVM.out
          rw [if_neg (fun c => by cases c.1)] at this
          exact this)
        have BL := Lib.hid (fun (q : World) (e : q = wr.alloc (Obj.cells #[.string ⟨z.ty.toArray⟩, i64 z.n] 25)) => (e ▸ (up15 wr _) : Below wr.heap.size wr q))
        go_wp2_with ((at_builtin; refine Hold.wpList_grow (R := []) rfl _ _ 23 rfl (wo.heap.size + 1) ⟨25, 2, .slice Av m cv, m, pcV (x'.vals.take m)⟩ iv _ 24 Try.underlying23 HIV.out.1 HIV.out.2.1 HIV.out.2.2.1 HIV.out.2.2.2 rfl (Nat.succ_pos 1) rfl (QA.out _ (BL.out _ rfl)) [str z.ty, i64 z.n] _ (by first | rfl | simp) rfl rfl (by intro z hz; simp at hz; rcases hz with rfl | rfl <;> rfl) (by show m + 1 ≤ _; omega) (by show (m + 1) * 24 ≤ _; omega) (Nat.le_trans p4 (BL.out _ rfl).size) ?_; intro v8 w8 hA8 hB8; obtain ⟨A9, c9, e9⟩ := two_form (show w8.ownsRow (wo.heap.size + 1) 25 2 v8 (m + 1) _ from hA8.head); subst e9; have HA8 := Lib.hid hA8; have HB8 := Lib.hid ((HR2.out.trans ((BL.out _ rfl).mono HR2.out.size)).trans (hB8.mono (Nat.le_succ _))); have hob := (HB2.out.below (BL.out _ rfl) HB2.out.lt).below hB8 (Nat.lt_succ_self _); have HO8 := Lib.hid hob; have u1 := hob.cell 1; have u2 := hob.thaw 1; have u3 := hob.lt; simp only [List.getElem?_cons_succ, List.getElem?_cons_zero] at u1; clear hA8 hB8 hob))
        have HRN := Lib.hid (show VOwn (w8.setCell ⟨wo.heap.size, 1, none⟩ (.slice A9 (m + 1) c9)) (wo.heap.size + 1) (.slice A9 (m + 1) c9) (x'.vals.take (m + 1)) by
          have e1 : x'.vals.take (m + 1) = x'.vals.take m ++ [z] := by rw [List.take_add_one, HV1.out]; rfl
          have e4 : (x'.vals.take m ++ [z]).length = m + 1 := by rw [List.length_append, List.length_take, HXl.out, Nat.min_eq_left hm]; rfl
          unfold VOwn
          rw [e1, e4, show pcV (x'.vals.take m ++ [z]) = pcV (x'.vals.take m) ++ [str z.ty, i64 z.n] by simp [pcV, vlC]]
          exact row_set_by (show w8.ownsRow (wo.heap.size + 1) 25 2 (.slice A9 (m + 1) c9) (m + 1) (pcV (x'.vals.take m) ++ [str z.ty, i64 z.n]) from HA8.out.head) HO8.out (by decide) _ _)
        have HON := Lib.hid (HO8.out.store 1 (.slice A9 (m + 1) c9))
        have HBN := Lib.hid (HB8.out.setCell (p := ⟨wo.heap.size, 1, none⟩) (Nat.le_refl _) (.slice A9 (m + 1) c9))
        go_roundw
        case rel => exact ⟨m + 1, .slice A9 (m + 1) c9, by omega, by go_num, HON, HRN, HBN⟩
        case measure => simp [intOf]; omega
      | true =>
        by_cases c2 : (d : Int) + 1 = o.n
        · by_cases c3 : (m : Int) = at_
          · have e2 : ((d : Int) + 1 == o.n) = true := by rw [c2]; simp
            subst c3
            have HV1 := Lib.hid (show x'.vals[m]? = some y by
              have := HVM.out
              rw [if_pos ⟨rfl, c2, rfl⟩] at this
              exact this)
            have BL := Lib.hid (fun (q : World) (e : q = wr.alloc (Obj.cells #[.string ⟨y.ty.toArray⟩, i64 y.n] 25)) => (e ▸ (up15 wr _) : Below wr.heap.size wr q))
            go_wp2_with ((at_builtin; refine Hold.wpList_grow (R := []) rfl _ _ 23 rfl (wo.heap.size + 1) ⟨25, 2, .slice Av m cv, m, pcV (x'.vals.take m)⟩ iv _ 24 Try.underlying23 HIV.out.1 HIV.out.2.1 HIV.out.2.2.1 HIV.out.2.2.2 rfl (Nat.succ_pos 1) rfl (QA.out _ (BL.out _ rfl)) [str y.ty, i64 y.n] _ (by first | rfl | simp) rfl rfl (by intro z hz; simp at hz; rcases hz with rfl | rfl <;> rfl) (by show m + 1 ≤ _; omega) (by show (m + 1) * 24 ≤ _; omega) (Nat.le_trans p4 (BL.out _ rfl).size) ?_; intro v8 w8 hA8 hB8; obtain ⟨A9, c9, e9⟩ := two_form (show w8.ownsRow (wo.heap.size + 1) 25 2 v8 (m + 1) _ from hA8.head); subst e9; have HA8 := Lib.hid hA8; have HB8 := Lib.hid ((HR2.out.trans ((BL.out _ rfl).mono HR2.out.size)).trans (hB8.mono (Nat.le_succ _))); have hob := (HB2.out.below (BL.out _ rfl) HB2.out.lt).below hB8 (Nat.lt_succ_self _); have HO8 := Lib.hid hob; have u1 := hob.cell 1; have u2 := hob.thaw 1; have u3 := hob.lt; simp only [List.getElem?_cons_succ, List.getElem?_cons_zero] at u1; clear hA8 hB8 hob))
            have HRN := Lib.hid (show VOwn (w8.setCell ⟨wo.heap.size, 1, none⟩ (.slice A9 (m + 1) c9)) (wo.heap.size + 1) (.slice A9 (m + 1) c9) (x'.vals.take (m + 1)) by
              have e1 : x'.vals.take (m + 1) = x'.vals.take m ++ [y] := by rw [List.take_add_one, HV1.out]; rfl
              have e4 : (x'.vals.take m ++ [y]).length = m + 1 := by rw [List.length_append, List.length_take, HXl.out, Nat.min_eq_left hm]; rfl
              unfold VOwn
              rw [e1, e4, show pcV (x'.vals.take m ++ [y]) = pcV (x'.vals.take m) ++ [str y.ty, i64 y.n] by simp [pcV, vlC]]
              exact row_set_by (show w8.ownsRow (wo.heap.size + 1) 25 2 (.slice A9 (m + 1) c9) (m + 1) (pcV (x'.vals.take m) ++ [str y.ty, i64 y.n]) from HA8.out.head) HO8.out (by decide) _ _)
            have HON := Lib.hid (HO8.out.store 1 (.slice A9 (m + 1) c9))
            have HBN := Lib.hid (HB8.out.setCell (p := ⟨wo.heap.size, 1, none⟩) (Nat.le_refl _) (.slice A9 (m + 1) c9))
            go_roundw
            case rel => exact ⟨m + 1, .slice A9 (m + 1) c9, by omega, by go_num, HON, HRN, HBN⟩
            case measure => simp [intOf]; omega
          · have e2 : ((d : Int) + 1 == o.n) = true := by rw [c2]; simp
            have e3 : ((m : Int) == at_) = false := by simpa using c3
            have HV1 := Lib.hid (show x'.vals[m]? = some z by
              have := HVM.out
              rw [if_neg (fun c => c3 c.2.2)] at this
              exact this)
            have BL := Lib.hid (fun (q : World) (e : q = wr.alloc (Obj.cells #[.string ⟨z.ty.toArray⟩, i64 z.n] 25)) => (e ▸ (up15 wr _) : Below wr.heap.size wr q))
            go_wp2_with ((at_builtin; refine Hold.wpList_grow (R := []) rfl _ _ 23 rfl (wo.heap.size + 1) ⟨25, 2, .slice Av m cv, m, pcV (x'.vals.take m)⟩ iv _ 24 Try.underlying23 HIV.out.1 HIV.out.2.1 HIV.out.2.2.1 HIV.out.2.2.2 rfl (Nat.succ_pos 1) rfl (QA.out _ (BL.out _ rfl)) [str z.ty, i64 z.n] _ (by first | rfl | simp) rfl rfl (by intro z hz; simp at hz; rcases hz with rfl | rfl <;> rfl) (by show m + 1 ≤ _; omega) (by show (m + 1) * 24 ≤ _; omega) (Nat.le_trans p4 (BL.out _ rfl).size) ?_; intro v8 w8 hA8 hB8; obtain ⟨A9, c9, e9⟩ := two_form (show w8.ownsRow (wo.heap.size + 1) 25 2 v8 (m + 1) _ from hA8.head); subst e9; have HA8 := Lib.hid hA8; have HB8 := Lib.hid ((HR2.out.trans ((BL.out _ rfl).mono HR2.out.size)).trans (hB8.mono (Nat.le_succ _))); have hob := (HB2.out.below (BL.out _ rfl) HB2.out.lt).below hB8 (Nat.lt_succ_self _); have HO8 := Lib.hid hob; have u1 := hob.cell 1; have u2 := hob.thaw 1; have u3 := hob.lt; simp only [List.getElem?_cons_succ, List.getElem?_cons_zero] at u1; clear hA8 hB8 hob))
            have HRN := Lib.hid (show VOwn (w8.setCell ⟨wo.heap.size, 1, none⟩ (.slice A9 (m + 1) c9)) (wo.heap.size + 1) (.slice A9 (m + 1) c9) (x'.vals.take (m + 1)) by
              have e1 : x'.vals.take (m + 1) = x'.vals.take m ++ [z] := by rw [List.take_add_one, HV1.out]; rfl
              have e4 : (x'.vals.take m ++ [z]).length = m + 1 := by rw [List.length_append, List.length_take, HXl.out, Nat.min_eq_left hm]; rfl
              unfold VOwn
              rw [e1, e4, show pcV (x'.vals.take m ++ [z]) = pcV (x'.vals.take m) ++ [str z.ty, i64 z.n] by simp [pcV, vlC]]
              exact row_set_by (show w8.ownsRow (wo.heap.size + 1) 25 2 (.slice A9 (m + 1) c9) (m + 1) (pcV (x'.vals.take m) ++ [str z.ty, i64 z.n]) from HA8.out.head) HO8.out (by decide) _ _)
            have HON := Lib.hid (HO8.out.store 1 (.slice A9 (m + 1) c9))
            have HBN := Lib.hid (HB8.out.setCell (p := ⟨wo.heap.size, 1, none⟩) (Nat.le_refl _) (.slice A9 (m + 1) c9))
            go_roundw
            case rel => exact ⟨m + 1, .slice A9 (m + 1) c9, by omega, by go_num, HON, HRN, HBN⟩
            case measure => simp [intOf]; omega
        · have e2 : ((d : Int) + 1 == o.n) = false := by simpa using c2
          have HV1 := Lib.hid (show x'.vals[m]? = some z by
            have := HVM.out
            rw [if_neg (fun c => c2 c.2.1)] at this
            exact this)
          have BL := Lib.hid (fun (q : World) (e : q = wr.alloc (Obj.cells #[.string ⟨z.ty.toArray⟩, i64 z.n] 25)) => (e ▸ (up15 wr _) : Below wr.heap.size wr q))
          go_wp2_with ((at_builtin; refine Hold.wpList_grow (R := []) rfl _ _ 23 rfl (wo.heap.size + 1) ⟨25, 2, .slice Av m cv, m, pcV (x'.vals.take m)⟩ iv _ 24 Try.underlying23 HIV.out.1 HIV.out.2.1 HIV.out.2.2.1 HIV.out.2.2.2 rfl (Nat.succ_pos 1) rfl (QA.out _ (BL.out _ rfl)) [str z.ty, i64 z.n] _ (by first | rfl | simp) rfl rfl (by intro z hz; simp at hz; rcases hz with rfl | rfl <;> rfl) (by show m + 1 ≤ _; omega) (by show (m + 1) * 24 ≤ _; omega) (Nat.le_trans p4 (BL.out _ rfl).size) ?_; intro v8 w8 hA8 hB8; obtain ⟨A9, c9, e9⟩ := two_form (show w8.ownsRow (wo.heap.size + 1) 25 2 v8 (m + 1) _ from hA8.head); subst e9; have HA8 := Lib.hid hA8; have HB8 := Lib.hid ((HR2.out.trans ((BL.out _ rfl).mono HR2.out.size)).trans (hB8.mono (Nat.le_succ _))); have hob := (HB2.out.below (BL.out _ rfl) HB2.out.lt).below hB8 (Nat.lt_succ_self _); have HO8 := Lib.hid hob; have u1 := hob.cell 1; have u2 := hob.thaw 1; have u3 := hob.lt; simp only [List.getElem?_cons_succ, List.getElem?_cons_zero] at u1; clear hA8 hB8 hob))
          have HRN := Lib.hid (show VOwn (w8.setCell ⟨wo.heap.size, 1, none⟩ (.slice A9 (m + 1) c9)) (wo.heap.size + 1) (.slice A9 (m + 1) c9) (x'.vals.take (m + 1)) by
            have e1 : x'.vals.take (m + 1) = x'.vals.take m ++ [z] := by rw [List.take_add_one, HV1.out]; rfl
            have e4 : (x'.vals.take m ++ [z]).length = m + 1 := by rw [List.length_append, List.length_take, HXl.out, Nat.min_eq_left hm]; rfl
            unfold VOwn
            rw [e1, e4, show pcV (x'.vals.take m ++ [z]) = pcV (x'.vals.take m) ++ [str z.ty, i64 z.n] by simp [pcV, vlC]]
            exact row_set_by (show w8.ownsRow (wo.heap.size + 1) 25 2 (.slice A9 (m + 1) c9) (m + 1) (pcV (x'.vals.take m) ++ [str z.ty, i64 z.n]) from HA8.out.head) HO8.out (by decide) _ _)
          have HON := Lib.hid (HO8.out.store 1 (.slice A9 (m + 1) c9))
          have HBN := Lib.hid (HB8.out.setCell (p := ⟨wo.heap.size, 1, none⟩) (Nat.le_refl _) (.slice A9 (m + 1) c9))
          go_roundw
          case rel => exact ⟨m + 1, .slice A9 (m + 1) c9, by omega, by go_num, HON, HRN, HBN⟩
          case measure => simp [intOf]; omega
    · have hme : m = x.vals.length := by omega
      subst hme
      have hBo := HBx.out.size
      have hD : (H'.take d).length = d := by rw [List.length_take, HL2.out]; omega
      have HDL := Lib.hid hD
      have hxt : x'.vals.take x.vals.length = x'.vals := List.take_of_length_le (Nat.le_of_eq HXl.out)
      have hvx : VOwn wr wo.heap.size (.slice Av x.vals.length cv) x'.vals := by
        have := HVW.out.lower (Nat.le_succ wo.heap.size)
        rw [hxt] at this
        exact this
      have HAJ := Lib.hid (((HAP.out.join (R2 := [inV (.slice Av x.vals.length cv) x'.vals]) HR2.out ⟨fun r hr => by rw [List.mem_singleton] at hr; subst hr; exact hvx, by cases e : (Value.slice Av x.vals.length cv).ownBlock <;> simp [e]⟩ hBo)).perm (List.Perm.swap _ _ _))
      have hwr : X1.heap.size ≤ wr.heap.size := HY2.out.size
      clear hBo hD hxt hvx
      go_wp2_with ((at_builtin; refine Hold.wpList_grow (R := inV (.slice Av x.vals.length cv) x'.vals :: inns us (H'.take d)) rfl _ _ 22 rfl X1.heap.size ⟨33, 2, .slice Ao d co, d, obC us (H'.take d)⟩ io _ 40 Try.underlying22 HIO.out.1 HIO.out.2.1 HIO.out.2.2.1 HIO.out.2.2.2 rfl (Nat.succ_pos 1) rfl HAJ.out [str x.cls, .slice Av x.vals.length cv] wr.heap.size rfl rfl rfl (by intro z hz; simp at hz; rcases hz with rfl | rfl <;> rfl) (by show d + 1 ≤ _; omega) (by show (d + 1) * 40 ≤ _; omega) hwr ?_; intro v8 w8 hA8 hB8; have HA8 := Lib.hid hA8; have HB8x := Lib.hid (HX2.out.trans (hB8.mono HWS.out)); have HY8 := Lib.hid (HY2.out.trans hB8); clear hA8 hB8))
      have e0 : H'.take (d + 1) = H'.take d ++ [x'] := by rw [List.take_add_one, HX'.out]; rfl
      have e1 : obC us (H'.take d) ++ [str x.cls, .slice Av x.vals.length cv] = obC (us ++ [.slice Av x.vals.length cv]) (H'.take (d + 1)) := by
        rw [e0, obC_snoc (by rw [HUL.out, HDL.out]), HXc.out]
      have HAN := Lib.hid (show Hold.Apart w8 X1.heap.size (⟨33, 2, v8, d + 1, obC (us ++ [.slice Av x.vals.length cv]) (H'.take (d + 1))⟩ :: inns (us ++ [.slice Av x.vals.length cv]) (H'.take (d + 1))) from by
        rw [← e1, e0, inns_snoc (by rw [HUL.out, HDL.out])]
        exact HA8.out.perm (List.Perm.cons _ (List.perm_append_comm (l₁ := [inV (.slice Av x.vals.length cv) x'.vals]) (l₂ := inns us (H'.take d)))))
      clear e0 e1
      go_roundw
      case rel => exact ⟨d + 1, us ++ [.slice Av x.vals.length cv], by omega, by go_num, by rw [List.length_append, HUL.out]; rfl, HAN, HB8x, HY8⟩
      case measure => simp [intOf]; omega
  · have hde : d = H.length := by omega
    subst hde
    have hown : HOwn wr X1.heap.size (.slice Ao H.length co) H' := by
      have e : H'.take H.length = H' := List.take_of_length_le (Nat.le_of_eq HL2.out)
      have := HAP.out
      rw [e] at this
      refine ⟨us, by rw [HUL.out, HL2.out], ?_⟩
      unfold outO
      rw [HL2.out]
      exact this
    have HOW := Lib.hid (hown.lower HWS.out)
    clear hown
    go_wp2_with fail
    go_ret2
    exact ⟨_, ok, H', rfl, HS.out, HOW.out, HBr.out⟩
end Go.Proofs.Ytclikfeaodfmkaa.Hp15
