/-
  Layer 15: the statements' moved.
-/
import Derived.Test.YtnkcpbfbehciaaaHpShift
import Derived.Test.YtnkcpbfbehciaaaHpApp
import Derived.Test.YtnkcpbfbehciaaaHpMap
import Derived.Test.YtnkcpbfbehciaaaChunk
namespace Go.Proofs.Ytnkcpbfbehciaaa.Hp15
open Go.RowKit Api Mem

theorem own_row_by {w w' : World} {B n size b : Nat} {e t : TypeId} {vr : Value} {xs cs : List Value} (hrow : w.ownsRow B e size vr n xs) (hg : w.grownBy w' vr.ownBlock) (ho : Mem.Own w b t cs) (hne : t ≠ e) : Mem.Own w' b t cs :=
  (row_nb hrow hg (o := .cells _ _ _) ho (by intro cur e2; simp only [Obj.cells.injEq] at e2; exact hne e2.2.1)).trans ho
theorem row_set_by {w : World} {B n size b : Nat} {e t : TypeId} {vr : Value} {xs cs : List Value} (hrow : w.ownsRow B e size vr n xs) (ho : Mem.Own w b t cs) (hne : t ≠ e) (i : Nat) (u : Value) : (w.setCell ⟨b, i, none⟩ u).ownsRow B e size vr n xs := by
  refine ⟨hrow.1, ?_⟩
  rcases hrow.2 with hn | ⟨g, cap, cur, e2, hb, hg, r⟩
  · exact .inl hn
  · refine .inr ⟨g, cap, cur, e2, hb, (Below.heap_setCell w ⟨b, i, none⟩ u g fun e3 => ?_).trans hg, r⟩
    simp only at e3
    subst e3
    have h3 : w.heap[g]? = some (.cells cs.toArray t (0, 0)) := ho
    rw [h3] at hg
    simp only [Option.some.injEq, Obj.cells.injEq] at hg
    exact hne hg.2.1
theorem moved_snoc {h : Hp} {n : Int} {a l : List Vl} {m : Nat} {x y : Vl} (hm : ∀ (i : Nat) (x y : Vl), a[i]? = some x → l[i]? = some y → MovedV h n x y) (hx : a[m]? = some x) (hl : l.length = m) (hy : MovedV h n x y) : ∀ (i : Nat) (x' y' : Vl), a[i]? = some x' → (l ++ [y])[i]? = some y' → MovedV h n x' y' := fun i x' y' h1 h2 => by
  by_cases e : i < m
  · rw [List.getElem?_append_left (by omega)] at h2
    exact hm i x' y' h1 h2
  · have h3 := (List.getElem?_eq_some_iff.1 h2).1
    rw [List.length_append, List.length_singleton] at h3
    obtain rfl : i = m := by omega
    rw [hx] at h1
    cases h1
    rw [List.getElem?_append_right (by omega), hl, Nat.sub_self] at h2
    cases h2
    exact hy
theorem ones_ob {lo hi : Nat} {w : World} (ds : List Value) (x : Ob) (h : ObC lo hi w ds x) : ∀ u ∈ ds, u.oneCell' = true := by
  obtain ⟨u, rfl, hu⟩ := h
  intro z hz
  simp only [List.mem_cons, List.not_mem_nil, or_false] at hz
  rcases hz with rfl | rfl
  · rfl
  · exact Chk.ones_slice hu
theorem chunks_obC {w : World} {base : Nat} : ∀ {us : List Value} {D : Hp}, us.length = D.length → (∀ r ∈ inns us D, r.on w base) → (∀ x ∈ D, x.vals.length ≤ 4611686018427387903) → Chk.Chunks 2 (ObC 0 w.heap.size w) (obC us D) D
  | [], [], _, _, _ => Chk.Chunks.nil _ _
  | [], _ :: _, h, _, _ => by simp at h
  | _ :: _, [], h, _, _ => by simp at h
  | u :: us, x :: D, h, hr, hs =>
    Chk.Chunks.app (cs := [str x.cls, u]) (xs := [x]) (Chk.Chunks.one rfl ⟨u, rfl, VOwn.vls (base := 0) (VOwn.lower (hr (inV u x.vals) (by simp [inns])) (Nat.zero_le _)) (Nat.le_refl _) (hs x (by simp))⟩)
      (chunks_obC (us := us) (D := D) (by simpa using h) (fun r h2 => hr r (by unfold inns at *; simp only [List.zipWith_cons_cons, List.mem_cons]; exact .inr h2)) (fun y h2 => hs y (by simp [h2])))
theorem moved_obs {lo hi base n : Nat} {w w' : World} {t : TypeId} {csF us : List Value} {front D : Hp} {v : Value} (hcF : Chk.Chunks 2 (ObC lo hi w) csF front) (hap : Hold.Apart w' base (⟨t, 2, v, n, csF ++ obC us D⟩ :: inns us D)) (hul : us.length = D.length) (hs : Still lo hi 0 w'.heap.size w w') (hn : (front ++ D).length ≤ 4611686018427387903) (hv : ∀ x ∈ D, x.vals.length ≤ 4611686018427387903) : Obs 0 w'.heap.size w' v (front ++ D) :=
  Chk.to_row (base := base) (show w'.ownsRow base t 2 v n (csF ++ obC us D) from hap.head) (Chk.Chunks.app (hcF.mono fun ds x h => ObC.move hs h) (chunks_obC hul (fun r hr => hap.1 r (List.mem_cons_of_mem _ hr)) hv)) (by decide) hn (Nat.le_refl _) (Nat.zero_le _)
theorem moved_len {h D : Hp} {n : Int} {b : Nat} (hm : ∀ (i : Nat) (o p : Ob), h[i]? = some o → D[i]? = some p → MovedO h n o p) (hl : D.length = h.length) (hb : ∀ x ∈ h, x.vals.length ≤ b) : ∀ x ∈ D, x.vals.length ≤ b := fun x hx => by
  obtain ⟨i, hi⟩ := List.getElem?_of_mem hx
  have h1 := (List.getElem?_eq_some_iff.1 hi).1
  obtain ⟨o, ho⟩ : ∃ o, h[i]? = some o := ⟨_, List.getElem?_eq_getElem (by omega)⟩
  rw [← (hm i o x ho hi).2.1]
  exact hb o (List.mem_of_getElem? ho)
theorem objs_snoc {h : Hp} {n : Int} {D : Hp} {m : Nat} {x y : Ob} (hm : ∀ (i : Nat) (x y : Ob), h[i]? = some x → D[i]? = some y → MovedO h n x y) (hx : h[m]? = some x) (hl : D.length = m) (hy : MovedO h n x y) : ∀ (i : Nat) (x' y' : Ob), h[i]? = some x' → (D ++ [y])[i]? = some y' → MovedO h n x' y' := fun i x' y' h1 h2 => by
  by_cases e : i < m
  · rw [List.getElem?_append_left (by omega)] at h2
    exact hm i x' y' h1 h2
  · have h3 := (List.getElem?_eq_some_iff.1 h2).1
    rw [List.length_append, List.length_singleton] at h3
    obtain rfl : i = m := by omega
    rw [hx] at h1
    cases h1
    rw [List.getElem?_append_right (by omega), hl, Nat.sub_self] at h2
    cases h2
    exact hy
set_option maxRecDepth 100000 in
set_option maxHeartbeats 8000000 in
theorem moved_any (lo hi : Nat) (w : World) (v u : Value) (h front : Hp) (hv : Obs lo hi w v h) (hf : Obs lo hi w u front) (hh : hi ≤ w.heap.size) (hl : FewH h) (hl2 : FewH front) :
    Calls Try.prog 22 #[v, u] w (fun e w' => ∃ (v : Value) (K : Hp), e = .returned v ∧ K.length = h.length ∧ (∀ (i : Nat) (o p : Ob), h[i]? = some o → K[i]? = some p → MovedO h front.length o p) ∧ Obs 0 w'.heap.size w' v (front ++ K) ∧ Below w.heap.size w w') := by
  obtain ⟨A1, k1, rfl⟩ := Row.form hv
  obtain ⟨A2, k2, rfl⟩ := Row.form hf
  obtain ⟨csF, bF, oF, hcF, _, haF, hceF⟩ := Chk.of_row hf (by decide)
  have HV := Lib.hid hv
  have HF := Lib.hid hf
  have HL := Lib.hid hl
  have HL2 := Lib.hid hl2
  have HCF := Lib.hid hcF
  have HAF := Lib.hid haF
  have HCE := Lib.hid hceF
  have h3 := hl2.1
  obtain ⟨iv, hi1, hi2, hi3, hi4⟩ := info_parts info_val
  have HIV : Hid (Try.prog.info? 25 = some iv ∧ iv.zero = some (.agg #[str [], i64 0]) ∧ iv.size = 2 ∧ iv.bytes = 24) := Lib.hid ⟨hi1, hi2, hi3, hi4⟩
  obtain ⟨io, hj1, hj2, hj3, hj4⟩ := info_parts info_obj
  have HIO : Hid (Try.prog.info? 41 = some io ∧ io.zero = some (.agg #[str [], .slice none 0 0]) ∧ io.size = 2 ∧ io.bytes = 40) := Lib.hid ⟨hj1, hj2, hj3, hj4⟩
  clear hi1 hi2 hi3 hi4 hj1 hj2 hj3 hj4
  clear hv hf hl hl2 hcF haF hceF
  go_enter Try.func22, Try.ntmps22
  go_wp2_with ((at_builtin; refine read_all15 rfl _ _ 22 rfl w.heap.size 41 (.agg #[str [], .slice none 0 0]) 2 40 Try.underlying22 info_obj rfl (by decide) (.slice none 0 0) 0 [] rfl (World.ownsRow_nil _ _ _ _) A2 front.length k2 bF oF csF rfl (fun h0 => (HAF.out h0).1) HCF.out.1 HCE.out (Chk.ones_of HCF.out (by decide) ones_ob) (by unfold maxLen; omega) (by omega) (Nat.le_refl _) ?_; intro v8 w8 hr8 hb8; obtain ⟨A8, c8, e8⟩ := two_form hr8; subst e8; have HR8 := Lib.hid hr8; have HB8 := Lib.hid hb8; clear hr8 hb8))
  have hap0 : Hold.Apart w8 w.heap.size (⟨41, 2, .slice A8 front.length c8, front.length + 0, csF ++ obC [] []⟩ :: inns [] []) := by
    refine ⟨fun r hr => ?_, ?_⟩
    · rcases List.mem_cons.1 hr with rfl | hr
      · have := HR8.out
        unfold Hold.Rec.on
        simpa [obC] using this
      · simp [inns] at hr
    · cases e : (Value.slice A8 front.length c8).ownBlock <;> simp [inns, e]
  have HAP0 := Lib.hid hap0
  clear hap0
  go_loopw [5, 6] (fun vo i wr => ∃ (k : Nat) (us : List Value) (D : Hp), k ≤ h.length ∧ i = .int .i64 k ∧ D.length = k ∧ us.length = k ∧ Hid (∀ (i : Nat) (o p : Ob), h[i]? = some o → D[i]? = some p → MovedO h front.length o p) ∧ Hid (Hold.Apart wr w.heap.size (⟨41, 2, vo, front.length + k, csF ++ obC us D⟩ :: inns us D)) ∧ Hid (Below w.heap.size w wr)) (fun _ i _ => h.length - (intOf i).toNat)
  case atStart => exact ⟨0, [], [], Nat.zero_le _, rfl, rfl, rfl, Lib.hid (fun i o p _ hp => by simp at hp), HAP0, HB8⟩
  case round =>
  obtain ⟨k, us, D, hk, rfl, hDl, hul, HM, HAP, HBr⟩ := hrel
  have HDL := Lib.hid hDl
  have HUL := Lib.hid hul
  clear hDl hul
  obtain ⟨Ao, co, hvo9⟩ := HAP.out.head.form
  simp only at hvo9
  subst hvo9
  by_cases hlt : k < h.length
  · obtain ⟨o, ho⟩ : ∃ x, h[k]? = some x := ⟨_, List.getElem?_eq_getElem hlt⟩
    obtain ⟨b1, o1, rfl, _⟩ := addr2 HV.out (by omega)
    obtain ⟨A3, k3, hvo, hc⟩ := ob_at HV.out ho
    obtain ⟨m1, m2⟩ := hc wr (HBr.out.mono hh)
    have HC := Lib.hid hc
    have HVO := Lib.hid hvo
    have HO := Lib.hid ho
    have ml := World.block_lt_of_cell? wr _ m1
    simp only at ml
    have hol := HL.out.2 o (List.mem_of_getElem? ho)
    clear ho hc hvo
    obtain ⟨wo, hwo⟩ : ∃ wo, wo = wr := ⟨_, rfl⟩
    subst hwo
    go_wp2_with fail
    obtain ⟨W, hW⟩ : ∃ W, wo.alloc (Obj.cells #[.string ⟨o.cls.toArray⟩, .slice none 0 0] 41) = W := ⟨_, rfl⟩
    have HBX := Lib.hid (show Mem.Own W wo.heap.size 41 [str o.cls, .slice none 0 0] from hW ▸ Own.made wo _ _)
    have HWR := Lib.hid (show Below wo.heap.size wo W from hW ▸ up15 wo _)
    rw [hW]
    clear hW
    go_loopw [8] (fun j wr => ∃ (m : Nat) (vv : Value) (l : List Vl), m ≤ o.vals.length ∧ j = .int .i64 m ∧ l.length = m ∧ Hid (∀ (i : Nat) (x y : Vl), o.vals[i]? = some x → l[i]? = some y → MovedV h front.length x y) ∧ Hid (Mem.Own wr wo.heap.size 41 [str o.cls, vv]) ∧ Hid (VOwn wr wo.heap.size vv l) ∧ Hid (Below wo.heap.size wo wr)) (fun j _ => o.vals.length - (intOf j).toNat)
    case atStart => exact ⟨0, .slice none 0 0, [], Nat.zero_le _, rfl, rfl, Lib.hid (fun i x y _ hy => by simp at hy), HBX, Lib.hid (World.ownsRow_nil _ _ _ _), HWR⟩
    case round =>
    obtain ⟨m, vv, l, hm, rfl, hll, HMV, HB2, HVW, HR2⟩ := hrel
    obtain ⟨Av, cv, ev⟩ := HVW.out.form
    rw [hll] at ev
    subst ev
    have HLL := Lib.hid hll
    clear hll
    have HX2 := Lib.hid (HBr.out.trans (HR2.out.mono HBr.out.size))
    obtain ⟨n1, n2⟩ := HC.out wr (HX2.out.mono hh)
    obtain ⟨_, p0, p1, p2, p3, p4⟩ := box2 HB2.out (Below.refl _ _)
    by_cases hlt2 : m < o.vals.length
    · obtain ⟨x, hx⟩ : ∃ x, o.vals[m]? = some x := ⟨_, List.getElem?_eq_getElem hlt2⟩
      obtain ⟨b2, o2, rfl, _⟩ := addr2 HVO.out (by omega)
      obtain ⟨q0, q1⟩ := vl_at HVO.out hx (HX2.out.mono hh)
      have HXX := Lib.hid hx
      have QS := Lib.hid (fun (w5 : World) (hb : Below w.heap.size w w5) => shifted_any lo hi w5 _ h (Obs.move (Still.of_below (hb.mono hh)) HV.out) (Nat.le_trans hh hb.size) x front.length (by omega) (by omega) (by have := HL.out.1; omega))
      clear hx
      go_wp2_with fail
      go_region_law (first
        | (go_simp; go_at_call 21; (with_reducible refine (QS.out _ HX2.out.drew).mono ?_); rintro e w7 ⟨y, rfl, hmv, hb7⟩; have hb9 := ((Below.refl _ _).drew).trans hb7; obtain ⟨ho7, s0, s1, s2, s3, s4⟩ := box2 HB2.out hb9; have HO7 := Lib.hid ho7; have HV7 := Lib.hid (HVW.out.below hb9); have HB7 := Lib.hid (HR2.out.trans (hb9.mono HR2.out.size)); have HMY := Lib.hid hmv; clear hb7 hb9 ho7 hmv)
        | (refine step_grow15 rfl _ _ 23 rfl wo.heap.size 25 2 iv (.agg #[str [], i64 0]) 24 Try.underlying23 HIV.out.1 HIV.out.2.1 HIV.out.2.2.1 HIV.out.2.2.2 rfl (Nat.succ_pos 1) (.slice Av m cv) m (pcV l) rfl (by rw [← HLL.out]; have := HV7.out; unfold VOwn at this; rw [HLL.out] at this ⊢; exact this) [str y.ty, i64 y.n] w7.heap.size rfl rfl rfl (by intro z hz; simp at hz; rcases hz with rfl | rfl <;> rfl) (by omega) (by omega) HB7.out.size ?_; intro v8 w8 hr8 hg8 _; have hob := own_row_by HV7.out hg8 HO7.out (by decide); have HO8 := Lib.hid hob; have HR8x := Lib.hid hr8; have HB8x := Lib.hid (HB7.out.grown hg8 HB7.out.size (fun j hj => ((HV7.out).lt j hj).1)); obtain ⟨A9, c9, e9⟩ := two_form hr8; subst e9; have u1 := hob.cell 1; have u2 := hob.thaw 1; have u3 := hob.lt; simp only [List.getElem?_cons_succ, List.getElem?_cons_zero] at u1; clear hr8 hg8 hob))
      all_goals
        have HMS := Lib.hid (moved_snoc HMV.out HXX.out HLL.out HMY.out)
        have HRN := Lib.hid (show VOwn (w8.setCell ⟨wo.heap.size, 1, none⟩ (.slice A9 (m + 1) c9)) wo.heap.size (.slice A9 (m + 1) c9) (l ++ [y]) by
          have e1 : (l ++ [y]).length = m + 1 := by rw [List.length_append, HLL.out]; rfl
          unfold VOwn
          rw [e1, show pcV (l ++ [y]) = pcV l ++ [str y.ty, i64 y.n] by simp [pcV, vlC]]
          exact row_set_by HR8x.out HO8.out (by decide) _ _)
        have HON := Lib.hid (HO8.out.store 1 (.slice A9 (m + 1) c9))
        have HBN := Lib.hid (HB8x.out.setCell (p := ⟨wo.heap.size, 1, none⟩) (Nat.le_refl _) (.slice A9 (m + 1) c9))
        go_wp2_with fail
        go_roundw
        case rel => exact ⟨m + 1, .slice A9 (m + 1) c9, l ++ [y], by omega, by go_num, by rw [List.length_append, HLL.out]; rfl, HMS, HON, HRN, HBN⟩
        case measure => simp [intOf]; omega
    · have hme : m = o.vals.length := by omega
      have HLV := Lib.hid (show l.length = o.vals.length by rw [HLL.out, hme])
      have hBo := HBr.out.size
      have h4 := HL.out.1
      have HAJ := Lib.hid (((HAP.out.join (R2 := [inV (.slice Av m cv) l]) HR2.out ⟨fun r hr => by rw [List.mem_singleton] at hr; subst hr; exact HVW.out, by cases e : (Value.slice Av m cv).ownBlock <;> simp [e]⟩ hBo)).perm (List.Perm.swap _ _ _))
      have hwr : w.heap.size ≤ wr.heap.size := Nat.le_trans hBo HR2.out.size
      have HBW := Lib.hid (HBr.out.trans (HR2.out.mono hBo))
      clear hme hBo
      go_wp2_with ((at_builtin; refine Hold.wpList_grow (R := inV (.slice Av m cv) l :: inns us D) rfl _ _ 22 rfl w.heap.size ⟨41, 2, .slice Ao (front.length + k) co, front.length + k, csF ++ obC us D⟩ io _ 40 Try.underlying22 HIO.out.1 HIO.out.2.1 HIO.out.2.2.1 HIO.out.2.2.2 rfl (Nat.succ_pos 1) rfl HAJ.out [str o.cls, .slice Av m cv] wr.heap.size rfl rfl rfl (by intro z hz; simp at hz; rcases hz with rfl | rfl <;> rfl) (by show front.length + k + 1 ≤ _; omega) (by show (front.length + k + 1) * 40 ≤ _; omega) hwr ?_; intro v8 w8 hA8 hB8; have HA8 := Lib.hid hA8; have HB8x := Lib.hid (HBW.out.trans hB8); clear hA8 hB8))
      have e1 : csF ++ obC us D ++ [str o.cls, .slice Av m cv] = csF ++ obC (us ++ [.slice Av m cv]) (D ++ [⟨o.cls, l⟩]) := by
        rw [obC_snoc (by rw [HUL.out, HDL.out]), List.append_assoc]
      have HAN := Lib.hid (show Hold.Apart w8 w.heap.size (⟨41, 2, v8, front.length + (k + 1), csF ++ obC (us ++ [.slice Av m cv]) (D ++ [⟨o.cls, l⟩])⟩ :: inns (us ++ [.slice Av m cv]) (D ++ [⟨o.cls, l⟩])) from by
        rw [← e1, inns_snoc (by rw [HUL.out, HDL.out])]
        exact HA8.out.perm (List.Perm.cons _ (List.perm_append_comm (l₁ := [inV (.slice Av m cv) l]) (l₂ := inns us D))))
      have HMN := Lib.hid (show ∀ (i : Nat) (o' p : Ob), h[i]? = some o' → (D ++ [⟨o.cls, l⟩])[i]? = some p → MovedO h front.length o' p from objs_snoc HM.out HO.out HDL.out ⟨rfl, HLV.out.symm, HMV.out⟩)
      clear e1
      go_roundw
      case rel => exact ⟨k + 1, us ++ [.slice Av m cv], D ++ [⟨o.cls, l⟩], by omega, by go_num, by rw [List.length_append, HDL.out]; rfl, by rw [List.length_append, HUL.out]; rfl, HMN, HAN, HB8x⟩
      case measure => simp [intOf]; omega
  · have hke : k = h.length := by omega
    have hB9 := HBr.out
    go_wp2_with fail
    go_ret
    refine ⟨_, D, rfl, by rw [HDL.out, hke], HM.out, moved_obs HCF.out HAP.out (by rw [HUL.out, HDL.out]) ⟨fun j _ hj => hB9.block j (Nat.lt_of_lt_of_le hj hh), Nat.zero_le _, Nat.le_trans hh hB9.size⟩ (by have h4 := HL.out.1; have h5 := HDL.out; simp only [List.length_append]; omega) (moved_len HM.out (by rw [HDL.out, hke]) (fun x hx => by have := HL.out.2 x hx; omega)), hB9⟩
end Go.Proofs.Ytnkcpbfbehciaaa.Hp15
