/-
  AsSet AsRight AsMem AsLose AsDel AsTell AsBeg AsCopy AsMeet AsPl AsSpread AsNew AsFollow AsIns
-/
import Derived.Test.YtdgmdpphimenjaaGreatDoorLvB
import Derived.Test.YtdgmdpphimenjaaGreatDoorFlG
import Derived.Lib.SliceRun
import Derived.Deep.RegionLaw
import Derived.StillTailTactics
import Derived.Test.YtdgmdpphimenjaaGreatDoorFlRef
import Derived.Sort.OwnSorted
/-
  Layer 13: sets of variables: what is asked of one, and what a function and a block tell by themselves.
-/
namespace Go.Proofs.YtdgmdpphimenjaaGreatDoor.As13
open Go.RowKit Api Mem Sh8 Go.Maps Lv12

theorem zeroU13 (w : World) : (zeroValue 112).run Tryz.prog w = .ok (.agg #[]) w := Sh8.zeroU w
set_option maxRecDepth 100000 in
set_option maxHeartbeats 4000000 in
theorem has_any {U : List Wd} {w : World} {g : Nat} {S : Wd → Bool} (h : SetO U w g S) (x : Wd) (hx : x.length ≤ 140737488351232) :
    Calls Tryz.prog 24 #[.map (some g), str x] w fun e w' => e = .returned (.bool (S x)) ∧ w.grownBy w' none := by
  obtain ⟨D, h1, h2, _⟩ := h.keys
  have hl := has_at lawS Tryz.underlying73 (zeroU w) h1 (key_at hx) (h2 x)
  obtain ⟨b, hb⟩ : ∃ b, S x = b := ⟨_, rfl⟩
  rw [hb] at hl
  rw [hb]
  clear h h1 h2 hb
  go_enter Tryz.func24, Tryz.ntmps24
  go_wp2_with fail
  go_ret
  exact ⟨rfl, World.grownBy_alloc w _ none⟩
/-- a set as a map, and what it is with a name more. -/
theorem set_put {U : List Wd} (hU : UOk U) {w : World} {g : Nat} {S : Wd → Bool} (h : SetO U w g S) (x : Wd) (hx : x ∈ U) :
    ∃ D : DataW Unit, w.ownsMap Tryz.prog 9 unitElem g (size D) D ∧ size D < maxLen ∧ keyOf Tryz.prog 9 (str x) = some (kS x) ∧ ∀ (w' : World) (n : Nat), w'.ownsMap Tryz.prog 9 unitElem g n (D.put (kS x) (.agg [])) → SetO U w' g (addS S x) := by
  obtain ⟨D, h1, h2, _, _, _, h6⟩ := h.keys
  refine ⟨D, h1, by have := hU.len; unfold maxLen; omega, key_at (hU.nm x hx), fun w' n ho => ⟨⟨_, own_size ho, fun y => ?_⟩, fun y hy => ?_⟩⟩
  · unfold addS
    by_cases e : y = x
    · subst e
      rw [has_put_same (h1.tidy lawS).isMap (keyS _)]
      simp
    · rw [has_put_other (kS_ne e), h2]
      simp [e]
  · unfold addS at hy
    rw [Bool.or_eq_true, decide_eq_true_iff] at hy
    rcases hy with hy | rfl
    · exact h.2 y hy
    · exact hx
theorem addS_mem {l : List Wd} {k : Nat} {x : Wd} (h : l[k]? = some x) : addS (fun y => decide (y ∈ l.take k)) x = fun y => decide (y ∈ l.take (k + 1)) := funext fun y => by
  unfold addS
  rw [take_at h]
  simp
set_option maxRecDepth 100000 in
set_option maxHeartbeats 8000000 in
theorem parameters_any {U : List Wd} (hU : UOk U) (lo hi : Nat) (w : World) (cs : List Value) (f : Api.Func) (hf : FuncC lo hi w cs f) (hh : hi ≤ w.heap.size) (hP : ∀ v ∈ f.params, v.name ∈ U) :
    Calls Tryz.prog 22 #[.agg cs.toArray] w fun e w' => ∃ g, e = .returned (.map (some g)) ∧ w.heap.size ≤ g ∧ SetO U w' g (fun y => decide (y ∈ f.params.map (·.name))) ∧ Below w.heap.size w w' := by
  obtain ⟨u1, u2, u3, rfl, kp, kv, kb⟩ := hf
  obtain ⟨nm, rs, ps, vs, bl⟩ := f
  simp only at kp kv kb hP ⊢
  obtain ⟨A1, k1, rfl⟩ := kp.form
  obtain ⟨A2, k2, rfl⟩ := kv.form
  obtain ⟨A3, k3, rfl⟩ := kb.form
  have hpl : ps.length ≤ 4611686018427387903 := by obtain ⟨_, _, _, h, _⟩ := Row.get kp; exact h
  obtain ⟨W, hW⟩ : ∃ W, w.alloc (.cells #[str nm, str rs, .slice A1 ps.length k1, .slice A2 vs.length k2, .slice A3 bl.length k3] 25) = W := ⟨_, rfl⟩
  obtain ⟨o1, b1, z1⟩ := box8 (c := [str nm, str rs, .slice A1 ps.length k1, .slice A2 vs.length k2, .slice A3 bl.length k3]) hW
  obtain ⟨W2, hW2⟩ : ∃ W2, W.alloc (.map #[] 0) = W2 := ⟨_, rfl⟩
  have HS := Lib.hid (show SetO U W2 (w.heap.size + 1) (fun y => decide (y ∈ (ps.map (·.name)).take 0)) from by
    have h := SetO.made U W
    rw [hW2, z1] at h
    exact h.same fun y => by simp)
  have HB2 := Lib.hid (show Below w.heap.size w W2 by rw [← hW2]; exact b1.alloc (by omega) _)
  have HO2 := Lib.hid (show Mem.Own W2 w.heap.size 25 [str nm, str rs, .slice A1 ps.length k1, .slice A2 vs.length k2, .slice A3 bl.length k3] by rw [← hW2]; exact o1.alloc _)
  have HW := Lib.hid (show w.alloc (.cells #[str nm, str rs, .slice A1 ps.length k1, .slice A2 vs.length k2, .slice A3 bl.length k3] 25) = W ∧ W.alloc (.map #[] 0) = W2 ∧ W.heap.size = w.heap.size + 1 from ⟨hW, hW2, z1⟩)
  have KP := Lib.hid kp
  have HPP := Lib.hid hP
  have hmm := @run_makeMap Tryz.prog
  clear kp kv kb o1 b1 hW hW2 hP z1
  go_enter Tryz.func22, Tryz.ntmps22
  go_wp2_with fail
  rw [HW.out.1, HW.out.2.1]
  go_loopw [10] (fun iv wr => ∃ k : Nat, k ≤ ps.length ∧ iv = .int .i64 k ∧ Hid (SetO U wr (w.heap.size + 1) (fun y => decide (y ∈ (ps.map (·.name)).take k))) ∧ Hid (Below w.heap.size w wr)) (fun iv _ => ps.length - (intOf iv).toNat)
  case atStart => exact ⟨0, Nat.zero_le _, rfl, HS, HB2⟩
  case round =>
  clear HS HB2 hmm
  obtain ⟨k, hk, rfl, HS, HB⟩ := hrel
  by_cases hlt : k < ps.length
  · obtain ⟨v, hx⟩ : ∃ y, ps[k]? = some y := ⟨_, List.getElem?_eq_getElem hlt⟩
    obtain ⟨b3, o3, rfl, hb3, cs3, hcl3, hcs3, e3⟩ := row_at KP.out hx
    subst e3
    obtain ⟨m0, m1⟩ := at2 (cells_later hcs3 (HB.out.mono hh) hb3)
    have hxU := HPP.out v (List.mem_of_getElem? hx)
    have HSv := Lib.hid (show SetO U (wr.alloc (.cells #[str v.name, str v.type] 45)) (w.heap.size + 1) _ from HS.out.alloc _)
    obtain ⟨D, d1, d2, d3, d4⟩ := set_put hU HSv.out v.name hxU
    have D1 := Lib.hid d1
    have D3 := Lib.hid d3
    have D4 := Lib.hid d4
    have HBv := Lib.hid (show Below w.heap.size w (wr.alloc (.cells #[str v.name, str v.type] 45)) from HB.out.alloc HB.out.size _)
    have HNX := Lib.hid (addS_mem (l := ps.map (·.name)) (k := k) (x := v.name) (by rw [List.getElem?_map, hx]; rfl))
    clear hx hcs3 d1 d3 d4 HS
    go_wp2_with (at_mapUpdate; refine wpList_mapUpdate_own _ rfl _ _ _ 73 rfl 9 112 lawS Tryz.underlying73 _ (w.heap.size + 1) _ _ rfl D1.out d2 _ _ _ rfl rfl D3.out _ [] unitElem_mk ?_; intro w9 hown9 hg9; have HO9 := Lib.hid (D4.out w9 _ hown9); have HB9 := Lib.hid (HBv.out.grown hg9 HBv.out.size (fun j hj => by cases hj; omega)); clear hown9 hg9)
    go_roundw
    case rel => exact ⟨k + 1, by omega, by go_num, by rw [← HNX.out]; exact HO9, HB9⟩
    case measure => simp [intOf]; omega
  · obtain rfl : k = ps.length := by omega
    have HF := Lib.hid (HS.out.same (S' := fun y => decide (y ∈ ps.map (·.name))) (fun y => by rw [List.take_of_length_le (by rw [List.length_map]; exact Nat.le_refl _)]))
    go_wp2_with fail
    go_ret
    exact ⟨_, rfl, by omega, HF.out, HB.out⟩
end Go.Proofs.YtdgmdpphimenjaaGreatDoor.As13

/-
  Layer 13: whether a function is sound.
-/
namespace Go.Proofs.YtdgmdpphimenjaaGreatDoor.As13
open Go.RowKit Api Mem Sh8 Go.Maps Lv12

/-- all names: of blocks, and of parameters. -/
def allP (f : Api.Func) : List Wd := allN f.blocks ++ f.params.map (·.name)
theorem fok_mono {U V : List Wd} {bl : List Api.Block} (h : FOk U bl) (hs : ∀ x ∈ U, x ∈ V) (hl : bl.length * V.length ≤ 1000000000000) : FOk V bl :=
  ⟨h.pos, h.few, hl, h.nm, h.dl, h.dn, h.el, fun b hb x hx => hs x (h.uT b hb x hx), fun b hb i hi => ⟨hs _ (h.uI b hb i hi).1, fun x hx => hs x ((h.uI b hb i hi).2 x hx)⟩, h.cl, fun b hb p hp => ⟨hs _ (h.ph b hb p hp).1, fun q hq => ⟨((h.ph b hb p hp).2 q hq).1, fun x hx => hs x (((h.ph b hb p hp).2 q hq).2 x hx)⟩⟩⟩
theorem params_len {f : Api.Func} (hF : Few12 f) : f.params.length ≤ 3000 := by
  have h := hF.1
  unfold Few6.cFunc Few6.cVars at h
  omega
theorem allP_len {f : Api.Func} (hF : Few12 f) : (allP f).length ≤ 6000 := by
  have h1 := len_allN f
  have h2 := params_len hF
  have h3 := hF.1
  unfold allP
  rw [List.length_append, List.length_map]
  omega
theorem uok13 {f : Api.Func} (hG : OpenP.funcG f) (hF : Few12 f) : UOk (allP f) := ⟨by have := allP_len hF; omega, fun x hx => by
  rcases List.mem_append.1 hx with h | h
  · exact all_nm hG x h
  · obtain ⟨v, hv, rfl⟩ := List.mem_map.1 h
    exact (hG.2.1 v hv).1⟩
theorem fok13 {f : Api.Func} (hG : OpenP.funcG f) (hF : Few12 f) : FOk (allP f) f.blocks := fok_mono (fok_of hG hF) (fun x hx => List.mem_append_left _ hx) (by
  have h1 := allP_len hF
  have : f.blocks.length * (allP f).length ≤ 30 * 6000 := Nat.mul_le_mul hF.2.2.1 h1
  omega)
theorem par13 (f : Api.Func) : ∀ v ∈ f.params, v.name ∈ allP f := fun v hv => List.mem_append_right _ (List.mem_map.2 ⟨v, hv, rfl⟩)
/-- nothing but parameters is live at the first place of all. -/
def SoundP (f : Api.Func) (b : Api.Block) : Prop := ∀ x, AtL f.blocks 0 b 0 x → x ∈ f.params.map (·.name)
set_option maxRecDepth 100000 in
set_option maxHeartbeats 8000000 in
theorem right13_any {U : List Wd} (hU : UOk U) (lo hi : Nat) (w : World) (cs : List Value) (f : Api.Func) (hf : FuncC lo hi w cs f) (hh : hi ≤ w.heap.size) (ho : FOk U f.blocks) (hP : ∀ v ∈ f.params, v.name ∈ U) (b : Api.Block) (hb0 : f.blocks[0]? = some b) :
    Calls Tryz.prog 8 #[.agg cs.toArray] w (Fl9.BP9 (SoundP f b) w) := by
  have hf0 := hf
  obtain ⟨u1, u2, u3, rfl, kp, kv, kb⟩ := hf
  obtain ⟨nm, rs, ps, vs, bl⟩ := f
  simp only at kp kv kb ho hP hb0
  obtain ⟨A1, k1, rfl⟩ := kp.form
  obtain ⟨A2, k2, rfl⟩ := kv.form
  obtain ⟨A3, k3, rfl⟩ := kb.form
  have HF := Lib.hid (fun (W' : World) (hb : Below w.heap.size w W') => (show FuncC lo hi W' [str nm, str rs, .slice A1 ps.length k1, .slice A2 vs.length k2, .slice A3 bl.length k3] ⟨nm, rs, ps, vs, bl⟩ from FuncC.move (Still.of_below (hb.mono hh)) hf0))
  have HH := Lib.hid (fun (W' : World) (hb : Below w.heap.size w W') => (show hi ≤ W'.heap.size from Nat.le_trans hh hb.size))
  have QP := Lib.hid (fun (W' : World) (hb : Below w.heap.size w W') => parameters_any hU lo hi W' _ _ (HF.out W' hb) (HH.out W' hb) hP)
  have QA := Lib.hid (fun (W' : World) (hb : Below w.heap.size w W') => (show Calls Tryz.prog 23 #[_, .int .i64 0, .int .i64 0] W' _ from at_any hU lo hi W' _ _ (HF.out W' hb) (HH.out W' hb) ho 0 b hb0 0 (Nat.zero_le _)))
  have HAT := Lib.hid (fun (x : Wd) (h : AtL bl 0 b 0 x) => (show x ∈ U from at_in ho hb0 h))
  obtain ⟨W, hW⟩ : ∃ W, w.alloc (.cells #[str nm, str rs, .slice A1 ps.length k1, .slice A2 vs.length k2, .slice A3 bl.length k3] 25) = W := ⟨_, rfl⟩
  obtain ⟨o1, b1, z1⟩ := box8 (c := [str nm, str rs, .slice A1 ps.length k1, .slice A2 vs.length k2, .slice A3 bl.length k3]) hW
  have HO := Lib.hid o1
  have HB := Lib.hid b1
  have HW := Lib.hid hW
  have zlt := o1.lt
  clear hf0 kp kv kb hP ho o1 b1 hW
  go_enter Tryz.func8, Tryz.ntmps8
  go_wp2_with fail
  rw [HW.out]
  refine (QP.out W HB.out).mono ?_
  rintro e w1 ⟨g, rfl, hg, hs1, hb1⟩
  have HB1 := Lib.hid (HB.out.trans (hb1.mono HB.out.size))
  have HO1 := Lib.hid (HO.out.below hb1 HO.out.lt)
  have HS1 := Lib.hid hs1
  have f0 := HO1.out.cell 0
  have f1 := HO1.out.cell 1
  have f2 := HO1.out.cell 2
  have f3 := HO1.out.cell 3
  have f4 := HO1.out.cell 4
  simp only [List.getElem?_cons_succ, List.getElem?_cons_zero] at f0 f1 f2 f3 f4
  clear hs1 hb1
  go_wp2_with fail
  refine (QA.out _ HB1.out).mono ?_
  rintro e w2 ⟨v, r, rfl, hr, hm, ho, -, hb2⟩
  obtain ⟨A9, c9, rfl⟩ := row_form ho
  have HB2 := Lib.hid (HB1.out.trans (hb2.mono HB1.out.size))
  have HS2 := Lib.hid (HS1.out.below hb2 HS1.out.lt)
  have HR := Lib.hid ho
  have HM := Lib.hid hm
  have hrl : r.length ≤ 1000000000000 := Nat.le_trans (sub_len hr.nd fun x hx => HAT.out x ((hm x).1 hx)) hU.len
  have HN0 := Lib.hid (show ∀ x ∈ r.take 0, x ∈ ps.map (·.name) from fun x h => by simp at h)
  have HBr0 := Lib.hid (Below.refl w2.heap.size w2)
  clear hb2 ho hm hr f0 f1 f2 f3 f4
  go_wp2_with fail
  go_loopw [11] (fun iv wr => ∃ k : Nat, k ≤ r.length ∧ iv = .int .i64 k ∧ Hid (∀ x ∈ r.take k, x ∈ ps.map (·.name)) ∧ Hid (Below w2.heap.size w2 wr)) (fun iv _ => r.length - (intOf iv).toNat)
  case atStart => exact ⟨0, Nat.zero_le _, rfl, HN0, HBr0⟩
  case round =>
  clear HN0 HBr0
  obtain ⟨k, hk, rfl, HN, HBr⟩ := hrel
  by_cases hlt : k < r.length
  · obtain ⟨x, hx⟩ : ∃ x, r[k]? = some x := ⟨_, List.getElem?_eq_getElem hlt⟩
    have hrow := own_below HR.out HBr.out
    obtain ⟨b6, rfl, hb6, hb66⟩ := own_addr hrow hlt
    have n0 := own_at hrow (show (r.map str)[k]? = some (str x) by rw [List.getElem?_map, hx]; rfl)
    have hxU := HAT.out x ((HM.out x).1 (List.mem_of_getElem? hx))
    obtain ⟨d, hd⟩ : ∃ d, decide (x ∈ ps.map (·.name)) = d := ⟨_, rfl⟩
    have hq := has_any (HS2.out.below HBr.out HS2.out.lt) x (hU.nm x hxU)
    rw [hd] at hq
    have HQ := Lib.hid hq
    have HX := Lib.hid hx
    have HD := Lib.hid hd
    clear hx hrow hq hd
    go_wp2_with fail
    refine HQ.out.mono ?_
    rintro e w5 ⟨rfl, g5⟩
    have HB5 := Lib.hid (show Below w2.heap.size w2 w5 from HBr.out.grown g5 HBr.out.size (fun j hj => by cases hj))
    clear g5
    cases d with
    | true =>
      go_wp2_with fail
      go_roundw
      case rel => exact ⟨k + 1, by omega, by go_num, Lib.hid (fun y hy => by
        rw [take_at HX.out] at hy
        rcases List.mem_append.1 hy with h | h
        · exact HN.out y h
        · rw [List.mem_singleton.1 h]; exact of_decide_eq_true HD.out), HB5⟩
      case measure => simp [intOf]; omega
    | false =>
      go_wp2_with fail
      go_ret
      exact ⟨false, rfl, ⟨fun h => (by cases h), fun h => absurd (h x ((HM.out x).1 (List.mem_of_getElem? HX.out))) (of_decide_eq_false HD.out)⟩, HB2.out.trans (HB5.out.mono HB2.out.size)⟩
  · obtain rfl : k = r.length := by omega
    have HALL := Lib.hid (show ∀ x ∈ r, x ∈ ps.map (·.name) by have := HN.out; rwa [List.take_length] at this)
    go_wp2_with fail
    go_ret
    exact ⟨true, rfl, ⟨fun _ x hx => HALL.out x ((HM.out x).2 hx), fun _ => rfl⟩, HB2.out.trans (HBr.out.mono HB2.out.size)⟩
end Go.Proofs.YtdgmdpphimenjaaGreatDoor.As13

/-
  Layer 13: what is known of blocks, in memory: their maps and rows, apart from one another.
-/
namespace Go.Proofs.YtdgmdpphimenjaaGreatDoor.As13
open Go.RowKit Api Mem Sh8 Go.Maps Lv12

/-! ### maps -/
structure MD (U : List Wd) (w : World) (Ok : Nat → Prop) (c : Nat → Nat) (S : Nat → Wd → Bool) : Prop where
  set : ∀ x, Ok x → SetO U w (c x) (S x)
  inj : ∀ x y, Ok x → Ok y → c x = c y → x = y
section
variable {U : List Wd} {w w' : World} {Ok : Nat → Prop} {c : Nat → Nat} {S : Nat → Wd → Bool}
theorem MD.put (h : MD U w Ok c S) {x : Nat} (hx : Ok x) (hg : w.grownBy w' (some (c x))) {T : Wd → Bool} (hs : SetO U w' (c x) T) : MD U w' Ok c (upd S x T) := by
  refine ⟨fun y hy => ?_, h.inj⟩
  by_cases e : y = x
  · subst e
    rw [upd_at]
    exact hs
  · rw [upd_ne _ _ e]
    exact (h.set y hy).grown hg fun e1 => e (h.inj y x hy hx (by simpa using e1))
theorem MD.row (h : MD U w Ok c S) {row : Option Nat} (hg : w.grownBy w' row) (hr : ∀ b, row = some b → IsRow w b) : MD U w' Ok c S :=
  ⟨fun y hy => (h.set y hy).grown hg fun e1 => set_ne_row (h.set y hy) (hr _ e1.symm) rfl, h.inj⟩
theorem MD.below (h : MD U w Ok c S) (hb : Below w.heap.size w w') : MD U w' Ok c S := ⟨fun y hy => (h.set y hy).below hb (h.set y hy).lt, h.inj⟩
/-- one more, in new memory. -/
theorem MD.new (h : MD U w Ok c S) {Ok' : Nat → Prop} {x : Nat} (hok : ∀ y, Ok' y → y ≠ x → Ok y) (hb : Below w.heap.size w w') {g : Nat} {T : Wd → Bool} (hg : w.heap.size ≤ g) (hs : SetO U w' g T) : MD U w' Ok' (upd c x g) (upd S x T) := by
  refine ⟨fun y hy => ?_, fun y z hy hz e => ?_⟩
  · by_cases e : y = x
    · subst e
      rw [upd_at, upd_at]
      exact hs
    · rw [upd_ne _ _ e, upd_ne _ _ e]
      exact (h.set y (hok y hy e)).below hb (h.set y (hok y hy e)).lt
  · by_cases ey : y = x
    · by_cases ez : z = x
      · rw [ey, ez]
      · subst ey
        rw [upd_at, upd_ne _ _ ez] at e
        have := (h.set z (hok z hz ez)).lt
        omega
    · by_cases ez : z = x
      · subst ez
        rw [upd_at, upd_ne _ _ ey] at e
        have := (h.set y (hok y hy ey)).lt
        omega
      · rw [upd_ne _ _ ey, upd_ne _ _ ez] at e
        exact h.inj y z (hok y hy ey) (hok z hz ez) e
end
/-! ### the blocks' own cells -/
def OutD (w : World) (B n : Nat) (F : Nat → Nat → Value) : Prop := ∃ cs, Mem.Own w B 75 cs ∧ cs.length = n * 4 ∧ ∀ i j, i < n → j < 4 → cs[i * 4 + j]? = some (F i j)
section
variable {w w' : World} {B n : Nat} {F : Nat → Nat → Value}
theorem OutD.lt (h : OutD w B n F) : B < w.heap.size := by
  obtain ⟨cs, h1, _⟩ := h
  exact h1.lt
theorem OutD.cell (h : OutD w B n F) {i j : Nat} (hi : i < n) (hj : j < 4) : w.cell? ⟨B, i * 4 + j, none⟩ = some (F i j) := by
  obtain ⟨cs, h1, _, h2⟩ := h
  exact (h1.cell _).trans (h2 i j hi hj)
theorem OutD.thaw (h : OutD w B n F) (k : Nat) : w.frozen? ⟨B, k, none⟩ = false := by
  obtain ⟨cs, h1, _⟩ := h
  exact h1.thaw k
theorem OutD.store (h : OutD w B n F) {i j : Nat} (hj : j < 4) (u : Value) : OutD (w.setCell ⟨B, i * 4 + j, none⟩ u) B n (upd2 F i j u) := by
  obtain ⟨cs, h1, h2, h3⟩ := h
  refine ⟨_, h1.store _ u, by simpa using h2, fun a b ha hb => ?_⟩
  rw [List.getElem?_set]
  unfold upd2
  by_cases e : a = i ∧ b = j
  · obtain ⟨rfl, rfl⟩ := e
    simp
    omega
  · rw [if_neg (by omega), if_neg e]
    exact h3 a b ha hb
theorem OutD.same (h : OutD w B n F) {F' : Nat → Nat → Value} (e : ∀ i j, i < n → j < 4 → F i j = F' i j) : OutD w B n F' := by
  obtain ⟨cs, h1, h2, h3⟩ := h
  exact ⟨cs, h1, h2, fun i j hi hj => by rw [← e i j hi hj]; exact h3 i j hi hj⟩
theorem OutD.other (h : OutD w B n F) {row : Option Nat} (hg : w.grownBy w' row) (hb : row ≠ some B) : OutD w' B n F := by
  have hl := h.lt
  obtain ⟨cs, h1, h2⟩ := h
  exact ⟨cs, (hg.block B hl (Ne.symm hb)).trans h1, h2⟩
theorem OutD.below (h : OutD w B n F) (hb : Below w.heap.size w w') : OutD w' B n F := by
  have hl := h.lt
  obtain ⟨cs, h1, h2⟩ := h
  exact ⟨cs, h1.below hb hl, h2⟩
theorem OutD.isRow (h : OutD w B n F) : IsRow w B := by
  obtain ⟨cs, h1, _⟩ := h
  exact isRow_own h1
theorem OutD.notT (h : OutD w B n F) {e : TypeId} (he : 75 ≠ e) : NotT w B e := by
  obtain ⟨cs, h1, _⟩ := h
  exact notT_own h1 he
end
/-! ### all of it: m blocks have told what they are, d: those to which a way has been gone -/
def OkD (n m : Nat) (d : Nat → Bool) (x : Nat) : Prop := x / 4 < n ∧ ((x % 4 = 0 ∧ x / 4 < m) ∨ (x % 4 = 1 ∧ x / 4 < m) ∨ (x % 4 = 3 ∧ d (x / 4) = true))
def FA (m : Nat) (d : Nat → Bool) (c : Nat → Nat) (vl : Nat → Value) (i j : Nat) : Value :=
  if j = 0 then .map (if i < m then some (c (4 * i)) else none) else if j = 1 then .map (if i < m then some (c (4 * i + 1)) else none) else if j = 2 then .map (if d i = true then some (c (4 * i + 3)) else none) else vl i
structure As (U : List Wd) (w : World) (base B n m : Nat) (d : Nat → Bool) (c : Nat → Nat) (S : Nat → Wd → Bool) (vl : Nat → Value) (lo : Nat → List Wd) : Prop where
  ob : base ≤ B
  out : OutD w B n (FA m d c vl)
  ms : MD U w (OkD n m d) c S
  mb : ∀ x, OkD n m d x → base ≤ c x
  rg : Fam 9 str w base n vl lo
theorem FA_lost (m : Nat) (d : Nat → Bool) (c : Nat → Nat) (vl : Nat → Value) (i : Nat) (v : Value) (a b : Nat) (hb : b < 4) : upd2 (FA m d c vl) i 3 v a b = FA m d c (upd vl i v) a b := by
  unfold upd2 FA upd
  by_cases e : a = i
  · subst e
    by_cases e2 : b = 3
    · subst e2
      simp
    · rw [if_neg (by omega)]
      simp only [if_true]
      repeat (split; rfl)
      omega
  · simp only [e, false_and, if_false]
theorem FA_set (m : Nat) (d : Nat → Bool) (c : Nat → Nat) (vl : Nat → Value) (i g : Nat) (a b : Nat) (hb : b < 4) : upd2 (FA m d c vl) i 2 (.map (some g)) a b = FA m (upd d i true) (upd c (4 * i + 3) g) vl a b := by
  unfold FA
  rw [upd_ne _ _ (by omega : 4 * a ≠ 4 * i + 3), upd_ne _ _ (by omega : 4 * a + 1 ≠ 4 * i + 3)]
  by_cases e : a = i
  · subst e
    by_cases e2 : b = 2
    · subst e2
      simp [upd2, upd_at]
    · unfold upd2
      rw [if_neg (by omega)]
      simp only [e2, if_false]
  · unfold upd2
    rw [if_neg (by omega), upd_ne _ _ e, upd_ne _ _ (by omega : 4 * a + 3 ≠ 4 * i + 3)]
section
variable {U : List Wd} {w w' : World} {base B n m : Nat} {d : Nat → Bool} {c : Nat → Nat} {S : Nat → Wd → Bool} {vl : Nat → Value} {lo : Nat → List Wd}
theorem As.cell (h : As U w base B n m d c S vl lo) {i j : Nat} (hi : i < n) (hj : j < 4) : w.cell? ⟨B, i * 4 + j, none⟩ = some (FA m d c vl i j) := h.out.cell hi hj
theorem As.below (h : As U w base B n m d c S vl lo) (hb : Below w.heap.size w w') : As U w' base B n m d c S vl lo :=
  ⟨h.ob, h.out.below hb, h.ms.below hb, h.mb, h.rg.below hb⟩
theorem As.drew (h : As U w base B n m d c S vl lo) : As U w.drew base B n m d c S vl lo := h.below (Below.refl _ w).drew
theorem As.putm (h : As U w base B n m d c S vl lo) {x : Nat} (hx : OkD n m d x) (hg : w.grownBy w' (some (c x))) {T : Wd → Bool} (hs : SetO U w' (c x) T) : As U w' base B n m d c (upd S x T) vl lo := by
  have h1 := h.ms.set x hx
  exact ⟨h.ob, h.out.other hg (fun e => set_ne_row h1 h.out.isRow (by simpa using e)), h.ms.put hx hg hs, h.mb, h.rg.other hg (notT_map h1 _)⟩
theorem As.push (h : As U w base B n m d c S vl lo) {i : Nat} (hi : i < n) (hg : w.grownBy w' (vl i).ownBlock) {v' : Value} {l' : List Wd} (hv : w'.ownsRow base 9 1 v' l'.length (l'.map str)) (hf : v'.ownBlock = (vl i).ownBlock ∨ ∀ k, v'.ownBlock = some k → w.heap.size ≤ k) : As U (w'.setCell ⟨B, i * 4 + 3, none⟩ v') base B n m d c S (upd vl i v') (upd lo i l') := by
  have hr : ∀ b, (vl i).ownBlock = some b → IsRow w b := fun b hb => isRow_row (h.rg.own i hi) hb
  have hne : (vl i).ownBlock ≠ some B := fun e => by
    have h1 := notT_row (h.rg.own i hi) e (e := 75) (by decide)
    obtain ⟨cs, h2, _⟩ := h.out
    exact h1 _ _ h2
  have o1 := h.out.other hg hne
  have m1 := h.ms.row hg hr
  have g1 := h.rg.put hi hg hv hf
  have gc := grown_cell w' ⟨B, i * 4 + 3, none⟩ v'
  exact ⟨h.ob, (o1.store (i := i) (j := 3) (by omega) v').same fun a b _ hb => FA_lost m d c vl i v' a b hb, m1.row gc fun b hb => by cases hb; exact o1.isRow, h.mb, g1.other gc (o1.notT (by decide))⟩
theorem As.outAt (h : As U w base B n m d c S vl lo) {i : Nat} (hi : i < n) (hg : w.grownBy w' (vl i).ownBlock) : OutD w' B n (FA m d c vl) :=
  h.out.other hg fun e => by
    have h1 := notT_row (h.rg.own i hi) e (e := 75) (by decide)
    obtain ⟨cs, h2, _⟩ := h.out
    exact h1 _ _ h2
theorem As.clear (h : As U w base B n m d c S vl lo) {i : Nat} (hi : i < n) : As U (w.setCell ⟨B, i * 4 + 3, none⟩ (.slice none 0 0)) base B n m d c S (upd vl i (.slice none 0 0)) (upd lo i []) :=
  h.push hi ⟨rfl, rfl, rfl, Nat.le_refl _, fun _ _ _ => rfl⟩ (v' := .slice none 0 0) (l' := []) ⟨by simp, .inl ⟨rfl, rfl⟩⟩ (.inr fun k hk => by cases hk)
/-- a set for a block that had none is laid there. -/
theorem As.newset (h : As U w base B n m d c S vl lo) {i : Nat} (hb : Below w.heap.size w w') {g : Nat} (hg : w.heap.size ≤ g) (hbase : base ≤ w.heap.size) {T : Wd → Bool} (hs : SetO U w' g T) : As U (w'.setCell ⟨B, i * 4 + 2, none⟩ (.map (some g))) base B n m (upd d i true) (upd c (4 * i + 3) g) (upd S (4 * i + 3) T) vl lo := by
  have h1 := h.below hb
  have gc := grown_cell w' ⟨B, i * 4 + 2, none⟩ (.map (some g))
  have hok : ∀ y, OkD n m (upd d i true) y → y ≠ 4 * i + 3 → OkD n m d y := fun y ⟨q1, q2⟩ hy => ⟨q1, by
    rcases q2 with q2 | q2 | ⟨q2, q3⟩
    · exact .inl q2
    · exact .inr (.inl q2)
    · rw [upd_ne _ _ (by omega)] at q3
      exact .inr (.inr ⟨q2, q3⟩)⟩
  refine ⟨h.ob, (h1.out.store (i := i) (j := 2) (by omega) _).same fun a b _ hb => FA_set m d c vl i g a b hb, (h.ms.new hok hb hg hs).row gc fun b e => by cases e; exact h1.out.isRow, fun x hx => ?_, h1.rg.other gc (h1.out.notT (by decide))⟩
  by_cases e : x = 4 * i + 3
  · subst e
    rw [upd_at]
    omega
  · rw [upd_ne _ _ e]
    exact h.mb x (hok x hx e)
/-- a row of numbers of the call's own has turned. -/
theorem As.rowI (h : As U w base B n m d c S vl lo) {b0 k : Nat} {v : Value} {xs : List Value} (ho : w.ownsRow b0 3 1 v k xs) (hg : w.grownBy w' v.ownBlock) : As U w' base B n m d c S vl lo := by
  have hr : ∀ b, v.ownBlock = some b → IsRow w b := fun b hb => isRow_row ho hb
  have hB : v.ownBlock ≠ some B := fun e => by
    have h1 := notT_row ho e (e := 75) (by decide)
    obtain ⟨cs, h2, _⟩ := h.out
    exact h1 _ _ h2
  exact ⟨h.ob, h.out.other hg hB, h.ms.row hg hr, h.mb, h.rg.others hg fun b hb => notT_row ho hb (by decide)⟩
/-- a block that is neither cells nor one of these maps has turned. -/
theorem As.walk (h : As U w base B n m d c S vl lo) {row : Option Nat} (hg : w.grownBy w' row) (hr : ∀ r, row = some r → (∀ x, OkD n m d x → c x ≠ r) ∧ ∃ o : Obj, w.heap[r]? = some o ∧ o.isCells = false) : As U w' base B n m d c S vl lo :=
  ⟨h.ob, h.out.other hg (fun e => by
    obtain ⟨cs, h1, _⟩ := h.out
    exact notT_walk (hr B e).2 _ _ _ h1), ⟨fun x hx => (h.ms.set x hx).grown hg fun e => (hr _ e.symm).1 x hx rfl, h.ms.inj⟩, h.mb, h.rg.others hg (fun b e => notT_walk (hr b e).2 _)⟩
theorem As.lower {base' : Nat} (h : As U w base B n m d c S vl lo) (hb : base' ≤ base) : As U w base' B n m d c S vl lo :=
  ⟨Nat.le_trans hb h.ob, h.out, h.ms, fun x hx => Nat.le_trans hb (h.mb x hx), h.rg.lower hb⟩
end
end Go.Proofs.YtdgmdpphimenjaaGreatDoor.As13

/-
  Layer 13: what a block loses.
-/
namespace Go.Proofs.YtdgmdpphimenjaaGreatDoor.As13
open Go.RowKit Api Mem Sh8 Go.Maps Lv12

/-- what comes of cutting these names from L, but for those of P: L' stays, and these are cut. -/
structure Los (P L L' : Wd → Bool) (bh add : List Wd) : Prop where
  iff : ∀ x, L' x = true ↔ L x = true ∧ x ∉ add
  new : ∀ x ∈ add, x ∈ bh ∧ P x = false ∧ L x = true
  nd : add.Nodup
  all : ∀ x ∈ bh, P x = true ∨ L' x = false
theorem Los.start (P L : Wd → Bool) : Los P L L [] [] := ⟨fun x => (by simp), fun x h => (by cases h), List.nodup_nil, fun x h => (by cases h)⟩
theorem Los.skip {P L L' : Wd → Bool} {bh add : List Wd} (h : Los P L L' bh add) {x : Wd} (hx : P x = true ∨ L' x = false) : Los P L L' (bh ++ [x]) add :=
  ⟨h.iff, fun y hy => ⟨List.mem_append_left _ (h.new y hy).1, (h.new y hy).2⟩, h.nd, fun y hy => by
    rcases List.mem_append.1 hy with hy | hy
    · exact h.all y hy
    · rw [List.mem_singleton] at hy
      subst hy
      exact hx⟩
theorem Los.add {P L L' : Wd → Bool} {bh add : List Wd} (h : Los P L L' bh add) {x : Wd} (hx : P x = false) (hl : L' x = true) : Los P L (delS L' x) (bh ++ [x]) (add ++ [x]) := by
  have h0 := (h.iff x).1 hl
  refine ⟨fun y => ?_, fun y hy => ?_, ?_, fun y hy => ?_⟩
  · unfold delS
    rw [Bool.and_eq_true, h.iff y, List.mem_append, List.mem_singleton, not_or, and_assoc]
    simp
  · rcases List.mem_append.1 hy with hy | hy
    · exact ⟨List.mem_append_left _ (h.new y hy).1, (h.new y hy).2⟩
    · rw [List.mem_singleton] at hy
      subst hy
      exact ⟨by simp, hx, h0.1⟩
  · rw [List.nodup_append]
    exact ⟨h.nd, by simp, fun a ha b hb e => h0.2 (by rw [List.mem_singleton] at hb; rw [← hb, ← e]; exact ha)⟩
  · rcases List.mem_append.1 hy with hy | hy
    · rcases h.all y hy with e | e
      · exact .inl e
      · exact .inr (by simp [delS, e])
    · rw [List.mem_singleton] at hy
      exact .inr (by simp [delS, hy])
theorem los_le {P L L' : Wd → Bool} {bh add : List Wd} (h : Los P L L' bh add) : add.length ≤ bh.length := sub_len h.nd fun x hx => (h.new x hx).1
theorem drewN_below13 (w : World) (n : Nat) : Below w.heap.size w (w.drewN n) := ⟨rfl, rfl, rfl, Nat.le_refl _, fun _ _ => rfl⟩
/-- between two names. -/
def LoseS (U : List Wd) (w : World) (base B n m : Nat) (d : Nat → Bool) (c : Nat → Nat) (S : Nat → Wd → Bool) (vl : Nat → Value) (lo : Nat → List Wd) (i : Nat) (vb : Value) (bh : List Wd) (k : Nat) (w' : World) : Prop :=
  ∃ L' add v', Los (S (4 * i)) (S (4 * i + 3)) L' (bh.take k) add ∧ As U w' base B n m d c (upd S (4 * i + 3) L') (upd vl i v') (upd lo i (lo i ++ add)) ∧ w'.ownsRow base 9 1 vb bh.length (bh.map str) ∧ (∀ j k, j < n → ((upd vl i v') j).ownBlock = some k → vb.ownBlock ≠ some k) ∧ Below base w w' ∧ KeepI w w'
set_option maxRecDepth 100000 in
set_option maxHeartbeats 8000000 in
theorem lose_any {U : List Wd} (hU : UOk U) {w : World} {base B n m : Nat} {d : Nat → Bool} {c : Nat → Nat} {S : Nat → Wd → Bool} {vl : Nat → Value} {lo : Nat → List Wd} (h : As U w base B n m d c S vl lo) (hb : base ≤ w.heap.size) {i : Nat} (hi : i < n) (him : i < m) (hd : d i = true) (hgl : (lo i).length ≤ 1000000000000)
    (A : Option Addr) (k0 : Nat) (bh : List Wd) (hbh : w.ownsRow base 9 1 (.slice A bh.length k0) bh.length (bh.map str)) (hbU : ∀ x ∈ bh, x ∈ U) (hbl : bh.length ≤ 1000000000000) (hap : ∀ j k, j < n → (vl j).ownBlock = some k → (Value.slice A bh.length k0).ownBlock ≠ some k) :
    Calls Tryz.prog 56 #[.pointer (some ⟨B, i * 4, none⟩), .slice A bh.length k0] w fun e w' => ∃ L' add v', e = .returned (.bool (decide ((lo i).length = 0) && decide (0 < add.length))) ∧ Los (S (4 * i)) (S (4 * i + 3)) L' bh add ∧ As U w' base B n m d c (upd S (4 * i + 3) L') (upd vl i v') (upd lo i (lo i ++ add)) ∧ w'.ownsRow base 9 1 (.slice A bh.length k0) bh.length (bh.map str) ∧ (∀ j k, j < n → ((upd vl i v') j).ownBlock = some k → (Value.slice A bh.length k0).ownBlock ≠ some k) ∧ Below base w w' ∧ KeepI w w' := by
  obtain ⟨is, his, hz0, hz1, hz2⟩ := info_parts info_str
  have HIS := Lib.hid (show _ ∧ _ ∧ _ ∧ _ from ⟨his, hz0, hz1, hz2⟩)
  clear his hz0 hz1 hz2
  have HOK1 := Lib.hid (show OkD n m d (4 * i) from ⟨by omega, .inl ⟨by omega, by omega⟩⟩)
  have HOK3 := Lib.hid (show OkD n m d (4 * i + 3) from ⟨by omega, .inr (.inr ⟨by omega, by rw [show (4 * i + 3) / 4 = i by omega]; exact hd⟩)⟩)
  have HBU := Lib.hid hbU
  obtain ⟨q, hq⟩ : ∃ q, (lo i).length = q := ⟨_, rfl⟩
  have HQ0 := Lib.hid hq
  have n6 := (h.cell hi (show 3 < 4 by omega)).trans (congrArg some (show FA m d c vl i 3 = vl i from rfl))
  obtain ⟨Av, kv, hv⟩ := row_form (h.rg.own i hi)
  rw [hq] at hv hgl
  rw [hv] at n6
  have HH := Lib.hid (show LoseS U w base B n m d c S vl lo i (.slice A bh.length k0) bh 0 w from
    ⟨S (4 * i + 3), [], vl i, Los.start _ _, by rw [upd_self, List.append_nil, upd_self, upd_self]; exact h, hbh, by rw [upd_self]; exact hap, Below.refl _ _, KeepI.refl _⟩)
  clear h hbU hbh hap hq hv
  go_enter Tryz.func56, Tryz.ntmps56
  go_wp2_with fail
  obtain ⟨dh, hdh⟩ : ∃ dh, decide (0 < q) = dh := ⟨_, rfl⟩
  rw [hdh]
  have HDH := Lib.hid hdh
  clear hdh n6
  go_loopw [16] (fun iv wr => ∃ k : Nat, k ≤ bh.length ∧ iv = .int .i64 k ∧ Hid (LoseS U w base B n m d c S vl lo i (.slice A bh.length k0) bh k wr)) (fun iv _ => bh.length - (intOf iv).toNat)
  case atStart => exact ⟨0, Nat.zero_le _, rfl, HH⟩
  case round =>
  clear HH
  obtain ⟨k, hk, rfl, HH⟩ := hrel
  by_cases hlt : k < bh.length
  · obtain ⟨x, hx⟩ : ∃ x, bh[k]? = some x := ⟨_, List.getElem?_eq_getElem hlt⟩
    obtain ⟨L', add, v', hN, hst, hrow, hap, hbw, hki⟩ := HH.out
    obtain ⟨b, rfl, hbase, hbl2⟩ := own_addr hrow hlt
    have n1 := own_at hrow (show (bh.map str)[k]? = some (str x) by rw [List.getElem?_map, hx]; rfl)
    have hxU := HBU.out x (List.mem_of_getElem? hx)
    have hx4 := hU.nm x hxU
    have n2 := (hst.cell hi (show 2 < 4 by omega)).trans (congrArg some (show FA m d c (upd vl i v') i 2 = .map (some (c (4 * i + 3))) from by simp [FA, hd]))
    have hs3 := hst.ms.set _ HOK3.out
    rw [upd_at] at hs3
    have HF := Lib.hid (fun (w1 : World) (hb1 : Below wr.heap.size wr w1) => (show w1.cell? ⟨B, i * 4, none⟩ = some (.map (some (c (4 * i)))) from ((hst.below hb1).cell hi (show 0 < 4 by omega)).trans (congrArg some (by simp [FA, him]))))
    have HF2 := Lib.hid (fun (w1 : World) (hb1 : Below wr.heap.size wr w1) => (show w1.cell? ⟨B, i * 4 + 2, none⟩ = some (.map (some (c (4 * i + 3)))) from ((hst.below hb1).cell hi (show 2 < 4 by omega)).trans (congrArg some (by simp [FA, hd]))))
    have HQ2 := Lib.hid (fun (w1 : World) (hb1 : Below wr.heap.size wr w1) => (show Calls Tryz.prog 24 #[.map (some (c (4 * i))), str x] w1 _ from has_any (S := S (4 * i)) (by
      have hs1 := (hst.below hb1).ms.set _ HOK1.out
      rwa [upd_ne _ _ (by omega)] at hs1) x hx4))
    have HQ1 := has_any hs3 x hx4
    obtain ⟨d1, hd1⟩ : ∃ d, L' x = d := ⟨_, rfl⟩
    obtain ⟨d2, hd2⟩ : ∃ d, S (4 * i) x = d := ⟨_, rfl⟩
    rw [hd1] at HQ1
    simp only [hd2] at HQ2
    have HQ1 := Lib.hid HQ1
    have HTK := Lib.hid (take_at hx)
    have HD1 := Lib.hid hd1
    have HD2 := Lib.hid hd2
    have HN := Lib.hid hN
    have HST := Lib.hid hst
    have HRW := Lib.hid hrow
    have HAP := Lib.hid hap
    have HBW := Lib.hid hbw
    have HKI := Lib.hid hki
    clear hx hN hst hrow hap hbw hki hs3 hd1 hd2
    go_wp2_with fail
    refine HQ1.out.mono ?_
    rintro e w5 ⟨rfl, g5⟩
    have HB5 := Lib.hid (show Below wr.heap.size wr w5 from (Below.refl _ _).grown g5 (Nat.le_refl _) (fun j hj => by cases hj))
    clear g5
    cases d1 with
    | false =>
      go_wp2_with fail
      go_roundw
      case rel =>
        refine ⟨k + 1, by omega, by go_num, Lib.hid ⟨L', add, v', ?_, HST.out.below HB5.out, own_below HRW.out HB5.out, HAP.out, HBW.out.trans (HB5.out.mono (Nat.le_trans hb HBW.out.size)), HKI.out.trans (KeepI.below HB5.out)⟩⟩
        rw [HTK.out]
        exact HN.out.skip (.inr HD1.out)
      case measure => simp [intOf]; omega
    | true =>
      have n5 := HF.out w5 HB5.out
      go_wp2_with fail
      refine (HQ2.out w5 HB5.out).mono ?_
      rintro e w6 ⟨rfl, g6⟩
      have HB6 := Lib.hid (HB5.out.trans ((show Below w5.heap.size w5 w6 from (Below.refl _ _).grown g6 (Nat.le_refl _) (fun j hj => by cases hj)).mono HB5.out.size))
      clear g6 n5
      cases d2 with
      | true =>
        go_wp2_with fail
        go_roundw
        case rel =>
          refine ⟨k + 1, by omega, by go_num, Lib.hid ⟨L', add, v', ?_, HST.out.below HB6.out, own_below HRW.out HB6.out, HAP.out, HBW.out.trans (HB6.out.mono (Nat.le_trans hb HBW.out.size)), HKI.out.trans (KeepI.below HB6.out)⟩⟩
          rw [HTK.out]
          exact HN.out.skip (.inl HD2.out)
        case measure => simp [intOf]; omega
      | false =>
        have hst6 := HST.out.below HB6.out
        have hs6 := hst6.ms.set _ HOK3.out
        rw [upd_at] at hs6
        obtain ⟨D, h1, h2, _⟩ := hs6.keys
        obtain ⟨w7, hrun, ho7, ht7⟩ := drop_at (U := U) lawS Tryz.underlying73 h1 (key_at hx4) 0
        have h7 := del_set hs6 h2 ho7
        have g7 := ht7.grown
        have hst7 := hst6.putm HOK3.out g7 h7
        rw [upd_upd] at hst7
        have n8 := HF2.out w6 HB6.out
        obtain ⟨z, hz⟩ : ∃ z, lo i ++ add = z := ⟨_, rfl⟩
        rw [hz] at hst7
        have n7 := (hst7.cell hi (show 3 < 4 by omega)).trans (congrArg some (show FA m d c (upd vl i v') i 3 = v' from upd_at _ _ _))
        have hgrow := hst7.rg.own i hi
        rw [upd_at, upd_at] at hgrow
        obtain ⟨A7, k7, rfl⟩ := row_form hgrow
        have HS7 := Lib.hid hst7
        have HG7 := Lib.hid hgrow
        have HW7 := Lib.hid (show base ≤ w7.heap.size from Nat.le_trans (Nat.le_trans hb HBW.out.size) (Nat.le_trans HB6.out.size g7.size))
        have hgl7 : z.length ≤ 2000000000000 := by
          rw [← hz]
          have := los_le HN.out
          have h2 := List.length_take_le k bh
          have := HQ0.out
          simp only [List.length_append]
          omega
        have HGL := Lib.hid hgl7
        have HQQ := Lib.hid hz
        have HR7 := Lib.hid (row_other HRW.out ((g67 HB6.out).andThen g7 fun j e => .inr e) (notT_map ((HST.out.ms.set _ HOK3.out)) _))
        have HKI7 := Lib.hid (show KeepI w w7 from (HKI.out.trans (KeepI.below HB6.out)).trans (KeepI.grown g7 (fun b e => by cases e; exact notT_map hs6 _)))
        have HB7 := Lib.hid (show Below base w w7 from ((HBW.out.trans (HB6.out.mono (Nat.le_trans hb HBW.out.size))).grown g7 (Nat.le_trans (Nat.le_trans hb HBW.out.size) HB6.out.size) (fun j hj => by cases hj; exact HST.out.mb _ HOK3.out)))
        clear hst7 hgrow h7 g7 hgl7 n1 hz hst6 hs6 h1 h2 ho7 ht7 n2
        go_wp2_with (at_builtin; refine wpList_growP rfl _ _ 36 rfl base 9 1 is _ 16 Tryz.underlying36 HIS.out.1 HIS.out.2.1 HIS.out.2.2.1 HIS.out.2.2.2 rfl Nat.one_pos _ _ _ rfl HG7.out [str x] _ rfl rfl rfl (by intro u hu; rw [List.mem_singleton] at hu; subst hu; rfl) (by have := HGL.out; omega) (by have := HGL.out; omega) HW7.out ?_; intro v8 w8 h8 g8 f8; obtain ⟨A8, k8, rfl⟩ := row_form h8; have hg8 : w7.grownBy w8 ((upd vl i (.slice A7 z.length k7)) i).ownBlock := (by rw [upd_at]; exact g8); have n8 := ((HS7.out.outAt hi hg8).cell hi (show 3 < 4 by omega)).trans (congrArg some (show FA m d c (upd vl i (.slice A7 z.length k7)) i 3 = (.slice A7 z.length k7) from upd_at _ _ _)); have t8 := (HS7.out.outAt hi hg8).thaw (i * 4 + 3); have H8 := Lib.hid h8; have G8 := Lib.hid g8; have GG8 := Lib.hid hg8; have F8 := Lib.hid f8; clear h8 g8 f8 hg8)
        go_roundw
        case rel =>
          have hp := HS7.out.push hi GG8.out (v' := .slice A8 (z.length + 1) k8) (l' := z ++ [x]) (by simpa using H8.out) (by rw [upd_at]; exact F8.out)
          rw [upd_upd, upd_upd] at hp
          have gc := grown_cell w8 ⟨B, i * 4 + 3, none⟩ (.slice A8 (z.length + 1) k8)
          have hr8 : w8.ownsRow base 9 1 (.slice (some ⟨b, 0, none⟩) bh.length k0) bh.length (bh.map str) := World.ownsRow.kept HR7.out G8.out (.inr fun e => HAP.out i b hi (by rw [upd_at]; exact e.symm) rfl)
          refine ⟨k + 1, by omega, by go_num, Lib.hid ⟨delS L' x, add ++ [x], .slice A8 (z.length + 1) k8, ?_, ?_, row_other hr8 gc ((HS7.out.outAt hi GG8.out).notT (by decide)), ?_, ?_, ?_⟩⟩
          · rw [HTK.out]
            exact HN.out.add HD2.out HD1.out
          · rw [← List.append_assoc, HQQ.out]
            exact hp
          · intro j kk hj hk hv
            by_cases e : j = i
            · subst e
              rw [upd_at] at hk
              rcases F8.out with f | f
              · exact HAP.out j kk hj (by rw [upd_at]; exact f.symm.trans hk) hv
              · have h1 := f kk hk
                have h2 := ((HR7.out).lt kk hv).2
                omega
            · rw [upd_ne _ _ e] at hk
              exact HAP.out j kk hj (by rw [upd_ne _ _ e]; exact hk) hv
          · have h1 := HB7.out.grown G8.out HW7.out (fun j hj => (HG7.out.lt j hj).1)
            exact h1.grown gc (Nat.le_trans HW7.out G8.out.size) (fun j hj => by cases hj; exact HS7.out.ob)
          · exact (HKI7.out.trans (KeepI.grown G8.out (fun b e => notT_row HG7.out e (by decide)))).trans (KeepI.grown gc (fun b e => by cases e; exact (HS7.out.outAt hi GG8.out).notT (by decide)))
        case measure => simp [intOf]; omega
  · obtain rfl : k = bh.length := by omega
    obtain ⟨L', add, v', hN, hst, hrow, hap, hbw, hki⟩ := HH.out
    rw [List.take_length] at hN
    have n7 := (hst.cell hi (show 3 < 4 by omega)).trans (congrArg some (show FA m d c (upd vl i v') i 3 = v' from upd_at _ _ _))
    have hgrow := hst.rg.own i hi
    rw [upd_at, upd_at] at hgrow
    obtain ⟨A7, k7, rfl⟩ := row_form hgrow
    obtain ⟨z, hz⟩ : ∃ z, (lo i ++ add).length = z := ⟨_, rfl⟩
    rw [hz] at n7
    have HRES := Lib.hid (show ∃ L' add v', Los (S (4 * i)) (S (4 * i + 3)) L' bh add ∧ As U wr base B n m d c (upd S (4 * i + 3) L') (upd vl i v') (upd lo i (lo i ++ add)) ∧ wr.ownsRow base 9 1 (.slice A bh.length k0) bh.length (bh.map str) ∧ (∀ j k, j < n → ((upd vl i v') j).ownBlock = some k → (Value.slice A bh.length k0).ownBlock ≠ some k) ∧ Below base w wr ∧ KeepI w wr ∧ z = q + add.length from ⟨L', add, _, hN, hst, hrow, hap, hbw, hki, by rw [← hz, List.length_append, HQ0.out]⟩)
    clear hN hst hrow hap hbw hki hgrow hz HH
    have hcase : (dh = true ∧ 0 < q) ∨ (dh = false ∧ q = 0) := by
      have := HDH.out
      cases dh with
      | true => exact .inl ⟨rfl, of_decide_eq_true this⟩
      | false => exact .inr ⟨rfl, by have := of_decide_eq_false this; omega⟩
    rcases hcase with ⟨rfl, hq1⟩ | ⟨rfl, hq1⟩
    · go_wp2_with fail
      go_ret
      obtain ⟨L', add, v', r1, r2, r3, r4, r5, r6, r7⟩ := HRES.out
      refine ⟨L', add, v', ?_, r1, r2, r3, r4, r5, r6⟩
      rw [HQ0.out, decide_eq_false (show ¬ q = 0 by omega)]
      rfl
    · go_wp2_with fail
      go_ret
      obtain ⟨L', add, v', r1, r2, r3, r4, r5, r6, r7⟩ := HRES.out
      refine ⟨L', add, v', ?_, r1, r2, r3, r4, r5, r6⟩
      rw [HQ0.out, r7, hq1]
      simp
end Go.Proofs.YtdgmdpphimenjaaGreatDoor.As13

/-
  Layer 13: slices.DeleteFunc of names, by a set.
-/
namespace Go.Proofs.YtdgmdpphimenjaaGreatDoor.As13
open Go.RowKit Api Mem Sh8 Go.Maps Lv12

theorem own_prefix {w : World} {base : Nat} {e : TypeId} {b n cap : Nat} {xs : List Value} (h : w.ownsRow base e 1 (.slice (some ⟨b, 0, none⟩) n cap) n xs) {k : Nat} (hk : k ≤ n) : w.ownsRow base e 1 (.slice (some ⟨b, 0, none⟩) k cap) k (xs.take k) := by
  have hl := h.1
  rcases h.2 with ⟨q, _⟩ | ⟨g, cap', cur, q, hb, hg, hnc, hcm, hcs, ht⟩
  · cases q
  · have q2 := q
    simp only [Value.slice.injEq, Option.some.injEq, Addr.mk.injEq, and_true, true_and] at q2
    obtain ⟨rfl, rfl⟩ := q2
    refine ⟨by rw [List.length_take]; simp at hl ⊢; omega, .inr ⟨b, cap, cur, rfl, hb, hg, by omega, hcm, hcs, ?_⟩⟩
    rw [← ht, List.take_take]
    congr 1
    simp
    omega
theorem own_beyond {base : Nat} {e : TypeId} {g n cap : Nat} {xs : List Value} : ∀ (vs : List Value) (o : Nat) (w : World), n ≤ o → w.ownsRow base e 1 (.slice (some ⟨g, 0, none⟩) n cap) n xs → (w.setCells g o vs).ownsRow base e 1 (.slice (some ⟨g, 0, none⟩) n cap) n xs ∧ w.grownBy (w.setCells g o vs) (some g)
  | [], o, w, _, h => ⟨h, grown_refl w _⟩
  | v :: r, o, w, ho, h => by
    obtain ⟨h1, h2⟩ := h.stored o v
    have hl := h.1
    rw [List.set_eq_of_length_le (by simp at hl; omega)] at h1
    obtain ⟨q1, q2⟩ := own_beyond r (o + 1) (w.setCell ⟨g, o, none⟩ v) (by omega) h1
    exact ⟨q1, grown_trans h2 q2⟩
/-- the value that asks a set. -/
abbrev hasF (g : Nat) : Value := .func (.func 24) #[.map (some g)] #[]
def IdxP (r : List Wd) (S : Wd → Bool) (z : Int) : Prop := (z = -1 ∧ ∀ x ∈ r, S x = false) ∨ ∃ k x, z = ((k : Nat) : Int) ∧ r[k]? = some x ∧ S x = true ∧ ∀ y ∈ r.take k, S y = false
set_option maxRecDepth 100000 in
set_option maxHeartbeats 8000000 in
theorem index_any {U : List Wd} (hU : UOk U) {w : World} {base g : Nat} {S : Wd → Bool} (hs : SetO U w g S) (A : Option Addr) (c : Nat) (r : List Wd) (hr : w.ownsRow base 9 1 (.slice A r.length c) r.length (r.map str)) (hrU : ∀ x ∈ r, x ∈ U) (hl : r.length ≤ 1000000000000) :
    Calls Tryz.prog 99 #[.slice A r.length c, hasF g] w fun e w' => ∃ z, e = .returned (.int .i64 z) ∧ IdxP r S z ∧ Below w.heap.size w w' := by
  have HS := Lib.hid hs
  have HR := Lib.hid hr
  have HU := Lib.hid hrU
  clear hs hr hrU
  go_enter Tryz.func99, Tryz.ntmps99
  go_wp2_with fail
  have H0 := Lib.hid (show ∀ y ∈ r.take 0, S y = false from fun y h => by simp at h)
  have HB0 := Lib.hid (Below.refl w.heap.size w)
  go_loopw [8] (fun iv wr => ∃ k : Nat, k ≤ r.length ∧ iv = .int .i64 k ∧ Hid (∀ y ∈ r.take k, S y = false) ∧ Hid (Below w.heap.size w wr)) (fun iv _ => r.length - (intOf iv).toNat)
  case atStart => exact ⟨0, Nat.zero_le _, rfl, H0, HB0⟩
  case round =>
  clear H0 HB0
  obtain ⟨k, hk, rfl, HN, HB⟩ := hrel
  by_cases hlt : k < r.length
  · obtain ⟨x, hx⟩ : ∃ x, r[k]? = some x := ⟨_, List.getElem?_eq_getElem hlt⟩
    have hrow := own_below HR.out HB.out
    obtain ⟨b6, rfl, hb6, hb66⟩ := own_addr hrow hlt
    have n0 := own_at hrow (show (r.map str)[k]? = some (str x) by rw [List.getElem?_map, hx]; rfl)
    obtain ⟨d, hd⟩ : ∃ d, S x = d := ⟨_, rfl⟩
    have hq := fun (W' : World) (hb : Below w.heap.size w W') => has_any (HS.out.below hb HS.out.lt) x (hU.nm x (HU.out x (List.mem_of_getElem? hx)))
    simp only [hd] at hq
    have HQ := Lib.hid hq
    have HX := Lib.hid hx
    have HD := Lib.hid hd
    clear hx hrow hq hd
    go_wp2_with fail
    refine (HQ.out wr HB.out).mono ?_
    rintro e w5 ⟨rfl, g5⟩
    have HB5 := Lib.hid (show Below w.heap.size w w5 from HB.out.grown g5 HB.out.size (fun j hj => by cases hj))
    clear g5
    cases d with
    | true =>
      go_wp2_with fail
      go_ret
      exact ⟨k, rfl, .inr ⟨k, x, rfl, HX.out, HD.out, HN.out⟩, HB5.out⟩
    | false =>
      go_wp2_with fail
      go_roundw
      case rel => exact ⟨k + 1, by omega, by go_num, Lib.hid (fun y hy => by
        rw [take_at HX.out] at hy
        rcases List.mem_append.1 hy with h | h
        · exact HN.out y h
        · rw [List.mem_singleton.1 h]; exact HD.out), HB5⟩
      case measure => simp [intOf]; omega
  · obtain rfl : k = r.length := by omega
    have HALL := Lib.hid (show ∀ x ∈ r, S x = false by have := HN.out; rwa [List.take_length] at this)
    go_wp2_with fail
    go_ret
    exact ⟨-1, rfl, .inl ⟨rfl, HALL.out⟩, HB.out⟩
/-- between two names of DeleteFunc: what the row holds. -/
structure Del (r : List Wd) (S : Wd → Bool) (i j : Nat) (cur : List Wd) : Prop where
  len : cur.length = r.length
  low : cur.take i = (r.take j).filter fun x => !S x
  high : cur.drop j = r.drop j
  ij : i < j
  jl : j ≤ r.length
theorem Del.at {r : List Wd} {S : Wd → Bool} {i j : Nat} {cur : List Wd} (h : Del r S i j cur) {x : Wd} (hx : r[j]? = some x) : cur[j]? = some x := by
  have h1 : (cur.drop j)[0]? = (r.drop j)[0]? := by rw [h.high]
  rw [List.getElem?_drop, List.getElem?_drop] at h1
  simpa [hx] using h1
theorem Del.skip {r : List Wd} {S : Wd → Bool} {i j : Nat} {cur : List Wd} (h : Del r S i j cur) {x : Wd} (hx : r[j]? = some x) (hS : S x = true) : Del r S i (j + 1) cur := by
  have hl := (List.getElem?_eq_some_iff.1 hx).1
  refine ⟨h.len, ?_, ?_, by have := h.ij; omega, by omega⟩
  · rw [h.low, take_at hx, List.filter_append]
    simp [hS]
  · have : cur.drop (j + 1) = (cur.drop j).drop 1 := by rw [List.drop_drop]
    rw [this, h.high, List.drop_drop]
theorem Del.keep {r : List Wd} {S : Wd → Bool} {i j : Nat} {cur : List Wd} (h : Del r S i j cur) {x : Wd} (hx : r[j]? = some x) (hS : S x = false) : Del r S (i + 1) (j + 1) (cur.set i x) := by
  have hl := (List.getElem?_eq_some_iff.1 hx).1
  have hij := h.ij
  have hlen := h.len
  refine ⟨by rw [List.length_set]; exact h.len, ?_, ?_, by omega, by omega⟩
  · have e1 : (cur.set i x).take (i + 1) = cur.take i ++ [x] := by
      have : (cur.set i x)[i]? = some x := List.getElem?_set_self (by omega)
      rw [take_at this]
      congr 1
      rw [List.take_set_of_le (Nat.le_refl i)]
    rw [e1, h.low, take_at hx, List.filter_append]
    simp [hS]
  · have e1 : (cur.set i x).drop (j + 1) = cur.drop (j + 1) := List.drop_set_of_lt (by omega)
    have : cur.drop (j + 1) = (cur.drop j).drop 1 := by rw [List.drop_drop]
    rw [e1, this, h.high, List.drop_drop]
theorem Del.start {r : List Wd} {S : Wd → Bool} {k : Nat} {x : Wd} (hx : r[k]? = some x) (hS : S x = true) (hN : ∀ y ∈ r.take k, S y = false) : Del r S k (k + 1) r := by
  have hl := (List.getElem?_eq_some_iff.1 hx).1
  refine ⟨rfl, ?_, rfl, by omega, by omega⟩
  rw [take_at hx, List.filter_append, List.filter_eq_self.2 (fun y hy => by rw [hN y hy]; rfl)]
  simp [hS]
theorem zeroS13 : ∀ w, (zeroValue 9).run Tryz.prog w = .ok (str []) w := fun w => by kernel_rfl
set_option maxRecDepth 100000 in
set_option maxHeartbeats 8000000 in
theorem delete_any {U : List Wd} (hU : UOk U) {w : World} {base g : Nat} {S : Wd → Bool} (hs : SetO U w g S) (A : Option Addr) (c : Nat) (r : List Wd) (hr : w.ownsRow base 9 1 (.slice A r.length c) r.length (r.map str)) (hrU : ∀ x ∈ r, x ∈ U) (hl : r.length ≤ 1000000000000) :
    Calls Tryz.prog 85 #[.slice A r.length c, hasF g] w fun e w' => e = .returned (.slice A (r.filter fun x => !S x).length c) ∧ w'.ownsRow base 9 1 (.slice A (r.filter fun x => !S x).length c) (r.filter fun x => !S x).length ((r.filter fun x => !S x).map str) ∧ w.grownBy w' (Value.slice A r.length c).ownBlock := by
  have HQ := Lib.hid (index_any hU hs A c r hr hrU hl)
  have HS := Lib.hid hs
  have HR := Lib.hid hr
  have HU := Lib.hid hrU
  clear hs hr hrU
  go_enter Tryz.func85, Tryz.ntmps85
  go_wp2_with fail
  refine HQ.out.mono ?_
  rintro e w1 ⟨z, rfl, hz, hb1⟩
  rcases hz with ⟨rfl, hall⟩ | ⟨k, x, rfl, hx, hS, hN⟩
  · have HRES := Lib.hid (show r.filter (fun x => !S x) = r from List.filter_eq_self.2 fun y hy => by rw [hall y hy]; rfl)
    have HB1 := Lib.hid hb1
    clear hall hb1
    go_wp2_with fail
    go_ret
    rw [HRES.out]
    exact ⟨rfl, own_below HR.out HB1.out, g67 HB1.out⟩
  · have hkl := (List.getElem?_eq_some_iff.1 hx).1
    have hrow := own_below HR.out hb1
    obtain ⟨b, rfl, hbb, hbl⟩ := own_addr hrow hkl
    have HD := Lib.hid (Del.start hx hS hN)
    have HO := Lib.hid (show w1.ownsRow base 9 1 (.slice (some ⟨b, 0, none⟩) r.length c) r.length (r.map str) from hrow)
    have HG := Lib.hid (show w.grownBy w1 (some b) from g67 hb1)
    have hkk : ¬ ((k : Int) = -1) := by omega
    have e1 : ((k : Int) == -1) = false := by simp
    have hcap : r.length ≤ c := by
      rcases hrow.2 with ⟨q, _⟩ | ⟨_, _, _, q, _, _, h1, _⟩
      · cases q
      · cases q; exact h1
    have HGB := Lib.hid (show g ≠ b from set_ne_row (HS.out.below hb1 HS.out.lt) (isRow_row hrow rfl))
    clear hrow hx hS hN hb1
    go_wp2_with fail
    go_loopw [5, 6] (fun iv jv wr => ∃ (i j : Nat) (cur : List Wd), i ≤ r.length ∧ j ≤ r.length ∧ iv = .int .i64 i ∧ jv = .int .i64 j ∧ Hid (Del r S i j cur) ∧ Hid (wr.ownsRow base 9 1 (.slice (some ⟨b, 0, none⟩) r.length c) r.length (cur.map str)) ∧ Hid (w.grownBy wr (some b))) (fun _ jv _ => r.length - (intOf jv).toNat)
    case atStart => exact ⟨k, k + 1, r, by omega, by omega, rfl, by go_num, HD, HO, HG⟩
    case round =>
    clear HD HO HG
    obtain ⟨i, j, cur, hi, hj, rfl, rfl, HD, HO, HG⟩ := hrel
    have hij := HD.out.ij
    have hcl := HD.out.len
    by_cases hlt : j < r.length
    · obtain ⟨y, hy⟩ : ∃ x, r[j]? = some x := ⟨_, List.getElem?_eq_getElem hlt⟩
      have hcy := HD.out.at hy
      have n0 := own_at HO.out (show (cur.map str)[j]? = some (str y) by rw [List.getElem?_map, hcy]; rfl)
      obtain ⟨u, hu⟩ : ∃ u, cur[i]? = some u := ⟨_, List.getElem?_eq_getElem (by omega)⟩
      have hlt2 : i < r.length := by omega
      obtain ⟨d, hd⟩ : ∃ d, S y = d := ⟨_, rfl⟩
      have hq := has_any (HS.out.grown HG.out (by simpa using HGB.out)) y (hU.nm y (HU.out y (List.mem_of_getElem? hy)))
      rw [hd] at hq
      have HQ2 := Lib.hid hq
      have HY := Lib.hid hy
      have HDD := Lib.hid hd
      have HUU := Lib.hid hu
      clear hy hcy hq hd hu hcl
      go_wp2_with fail
      refine HQ2.out.mono ?_
      rintro e w5 ⟨rfl, g5⟩
      have hb5 : Below wr.heap.size wr w5 := (Below.refl _ _).grown g5 (Nat.le_refl _) (fun j hj => by cases hj)
      have HO5 := Lib.hid (own_below HO.out hb5)
      have HG5 := Lib.hid (grown_trans HG.out (g67 hb5 (row := some b)))
      have c5 := own_at HO5.out (show (cur.map str)[i]? = some (str u) by rw [List.getElem?_map, HUU.out]; rfl)
      have t5 := (Fl9.thaw9 HO5.out i).1
      clear g5 hb5 n0
      cases d with
      | true =>
        go_wp2_with fail
        go_roundw
        case rel => exact ⟨i, j + 1, cur, by omega, by omega, by go_num, by go_num, Lib.hid (HD.out.skip HY.out HDD.out), HO5, HG5⟩
        case measure => simp [intOf]; omega
      | false =>
        go_wp2_with fail
        go_roundw
        case rel =>
          obtain ⟨q1, q2⟩ := HO5.out.stored i (str y)
          exact ⟨i + 1, j + 1, cur.set i y, by omega, by omega, by go_num, by go_num, Lib.hid (HD.out.keep HY.out HDD.out), Lib.hid (by rw [List.map_set]; exact q1), Lib.hid (grown_trans HG5.out q2)⟩
        case measure => simp [intOf]; omega
    · obtain rfl : j = r.length := by omega
      have hlow := HD.out.low
      rw [List.take_length] at hlow
      have hil : i = (r.filter fun x => !S x).length := by rw [← hlow, List.length_take]; omega
      have hi2 : i < r.length := by omega
      have hcl2 : ∀ ty, (Builtin.clear_ #[36] ty #[.slice (some ⟨b, i, none⟩) (r.length - i) (c - i)]).run Tryz.prog wr = .ok (.tuple #[]) (wr.setCells b i (List.replicate (r.length - i) (str []))) := fun ty =>
        Lib.run_clear_slice wr _ _ ty _ Tryz.underlying36 zeroS13 rfl rfl b i _ _ (by omega) (fun q hq => by
          have := own_at HO.out (show (cur.map str)[i + q]? = some (str (cur[i + q]'(by omega))) by rw [List.getElem?_map, List.getElem?_eq_getElem (by omega)]; rfl)
          rw [this]; rfl) (fun q hq => (Fl9.thaw9 HO.out (i + q)).1)
      have HFIN := Lib.hid (show (wr.setCells b i (List.replicate (r.length - i) (str []))).ownsRow base 9 1 (.slice (some ⟨b, 0, none⟩) i c) i ((r.filter fun x => !S x).map str) ∧ w.grownBy (wr.setCells b i (List.replicate (r.length - i) (str []))) (some b) from by
        have h1 := own_prefix HO.out (k := i) (by omega)
        rw [← List.map_take, hlow] at h1
        obtain ⟨q1, q2⟩ := own_beyond (List.replicate (r.length - i) (str [])) i wr (Nat.le_refl _) h1
        exact ⟨q1, grown_trans HG.out q2⟩)
      have HIL := Lib.hid hil
      clear hlow hil hcl
      go_wp2_with fail
      go_ret
      rw [← HIL.out]
      exact ⟨rfl, HFIN.out.1, HFIN.out.2⟩
end Go.Proofs.YtdgmdpphimenjaaGreatDoor.As13

/-
  Layer 13: what a block tells.
-/
namespace Go.Proofs.YtdgmdpphimenjaaGreatDoor.As13
open Go.RowKit Api Mem Sh8 Go.Maps Lv12

set_option maxRecDepth 100000 in
set_option maxHeartbeats 8000000 in
theorem tell_any {U : List Wd} (hU : UOk U) {w : World} {base B n m : Nat} {d : Nat → Bool} {c : Nat → Nat} {S : Nat → Wd → Bool} {vl : Nat → Value} {lo : Nat → List Wd} (h : As U w base B n m d c S vl lo) (hb : base ≤ w.heap.size) {i : Nat} (hi : i < n) (him : i < m) (hgU : ∀ x ∈ lo i, x ∈ U) (hgl : (lo i).length ≤ 1000000000000) :
    Calls Tryz.prog 57 #[.pointer (some ⟨B, i * 4, none⟩)] w fun e w' => ∃ v r, e = .returned v ∧ r = (lo i).filter (fun x => !S (4 * i + 1) x) ∧ w'.ownsRow base 9 1 v r.length (r.map str) ∧ As U w' base B n m d c S (upd vl i (.slice none 0 0)) (upd lo i []) ∧ (∀ j k, j < n → (upd vl i (.slice none 0 0) j).ownBlock = some k → v.ownBlock ≠ some k) ∧ Below base w w' ∧ KeepI w w' := by
  have n0 := (h.cell hi (show 1 < 4 by omega)).trans (congrArg some (show FA m d c vl i 1 = .map (some (c (4 * i + 1))) from by simp [FA, him]))
  have n3 := (h.cell hi (show 3 < 4 by omega)).trans (congrArg some (show FA m d c vl i 3 = vl i from rfl))
  obtain ⟨Av, kv, hv⟩ := row_form (h.rg.own i hi)
  rw [hv] at n3
  have HST := Lib.hid h
  have HV := Lib.hid hv
  have hrow := h.rg.own i hi
  rw [hv] at hrow
  have hs1 := h.ms.set (4 * i + 1) ⟨by omega, .inr (.inl ⟨by omega, by omega⟩)⟩
  have HQ := Lib.hid (delete_any hU hs1.drew Av kv (lo i) (own_below hrow (Below.refl _ w).drew) hgU hgl)
  have HR := Lib.hid hrow
  clear h hv hrow hs1
  go_enter Tryz.func57, Tryz.ntmps57
  go_wp2_with fail
  go_still_tail 9, (by kernel_rfl)
  change wpList _ _ _ _ _ w.drew
  go_wp2_with fail
  refine HQ.out.mono ?_
  rintro e w5 ⟨rfl, ho5, g5⟩
  have g5' : w.grownBy w5 (vl i).ownBlock := by rw [HV.out]; exact grown_of_drew g5
  have t5 := (HST.out.outAt hi g5').thaw (i * 4 + 3)
  have n5 := ((HST.out.outAt hi g5').cell hi (show 3 < 4 by omega)).trans (congrArg some (show FA m d c vl i 3 = .slice Av (lo i).length kv from HV.out))
  have HG5 := Lib.hid g5'
  have HO5 := Lib.hid ho5
  clear ho5 g5 g5' n0 n3
  go_wp2_with fail
  go_ret
  have gc := grown_cell w5 ⟨B, i * 4 + 3, none⟩ (.slice none 0 0)
  have ho := HST.out.outAt hi HG5.out
  have hbl : ∀ k, (vl i).ownBlock = some k → base ≤ k := fun k hk => ((HST.out.rg.own i hi).lt k hk).1
  refine ⟨.slice Av ((lo i).filter fun x => !S (4 * i + 1) x).length kv, _, rfl, rfl, row_other HO5.out gc (ho.notT (by decide)), HST.out.push hi HG5.out (v' := .slice none 0 0) (l' := []) ⟨by simp, .inl ⟨rfl, rfl⟩⟩ (.inr fun k hk => by cases hk), fun j k hj hk he => ?_, ?_, ?_⟩
  · by_cases e : j = i
    · subst e
      rw [upd_at] at hk
      cases hk
    · rw [upd_ne _ _ e] at hk
      exact e (HST.out.rg.ap j i k hj hi hk (by rw [HV.out]; cases Av with | none => cases he | some a => exact he))
  · exact ((Below.refl _ _).grown HG5.out hb hbl).grown gc (Nat.le_trans hb HG5.out.size) (fun j hj => by cases hj; exact HST.out.ob)
  · exact (KeepI.grown HG5.out (fun b e => notT_row (HST.out.rg.own i hi) e (by decide))).trans (KeepI.grown gc (fun b e => by cases e; exact ho.notT (by decide)))
end Go.Proofs.YtdgmdpphimenjaaGreatDoor.As13

/-
  Layer 13: what a block tells by itself.
-/
namespace Go.Proofs.YtdgmdpphimenjaaGreatDoor.As13
open Go.RowKit Api Mem Sh8 Go.Maps Lv12

theorem setsL_next {l : List Instr} {k : Nat} {x : Instr} (h : l[k]? = some x) : (fun y => decide (y ∈ setsL (l.take (k + 1)))) = if x.dst = [] then (fun y => decide (y ∈ setsL (l.take k))) else addS (fun y => decide (y ∈ setsL (l.take k))) x.dst := by
  have e0 : setsL (l.take (k + 1)) = setsL (l.take k) ++ (if x.dst = [] then [] else [x.dst]) := by
    rw [take_at h]
    unfold setsL
    rw [List.filter_append, List.map_append]
    congr 1
    by_cases e : x.dst = []
    · rw [if_pos e, List.filter_cons_of_neg (by simp [e])]
      rfl
    · rw [if_neg e, List.filter_cons_of_pos (by simp [e])]
      rfl
  rw [e0]
  split
  · rw [List.append_nil]
  · funext y
    simp [addS]
theorem results_cell13 {fn : Func} {p : Tmp} {ty : TypeId} (h : fn.results = #[.cell p ty]) (tmps : Array Value) (P : Program) (w : World) :
    (results fn tmps).run P w = ((asAddr (tmps.getD p undef)).run P w).andThen fun a w₁ => (loadVar ty a).run P w₁ := by
  simp only [results, h]
  simp [Sem.run_bind, Result.andThen]
/-- two new sets: what phis set, and what instructions do. -/
def BegQ (U : List Wd) (b : Api.Block) (w : World) (e : Ending) (w' : World) : Prop := ∃ p x, e = .returned (.agg #[.map (some p), .map (some x), .map none, .slice none 0 0]) ∧ p ≠ x ∧ w.heap.size ≤ p ∧ w.heap.size ≤ x ∧ SetO U w' p (fun y => decide (y ∈ b.phis.map (·.dst))) ∧ SetO U w' x (fun y => decide (y ∈ setsL b.code)) ∧ Below w.heap.size w w'
set_option maxRecDepth 100000 in
set_option maxHeartbeats 8000000 in
theorem begun_any {U : List Wd} (hU : UOk U) (lo hi : Nat) (w : World) (cs : List Value) (b : Api.Block) (hc : BlockC lo hi w cs b) (hh : hi ≤ w.heap.size) (hP : ∀ p ∈ b.phis, p.dst ∈ U) (hI : ∀ i ∈ b.code, i.dst ∈ U) :
    Calls Tryz.prog 35 #[.agg cs.toArray] w (BegQ U b w) := by
  obtain ⟨u1, u2, cs2, rfl, hph, hco, u3, rfl, hto⟩ := hc
  obtain ⟨A1, k1, rfl⟩ := Row.form hph
  obtain ⟨A2, k2, rfl⟩ := Row.form hco
  obtain ⟨A3, k3, rfl⟩ := Row.form hto
  have hpl : b.phis.length ≤ 4611686018427387903 := by obtain ⟨_, _, _, h, _⟩ := Row.get hph; exact h
  have hcl : b.code.length ≤ 4611686018427387903 := by obtain ⟨_, _, _, h, _⟩ := Row.get hco; exact h
  have hmm := @run_makeMap Tryz.prog
  have HPH := Lib.hid hph
  have HCO := Lib.hid hco
  have HP := Lib.hid hP
  have HI := Lib.hid hI
  obtain ⟨W1, hW1⟩ : ∃ W1, w.alloc (.cells #[str b.name, .slice A1 b.phis.length k1, .slice A2 b.code.length k2, i64 b.fin.kind, i64 b.fin.a.kind, str b.fin.a.s, i64 b.fin.a.n, .slice A3 b.fin.dest.length k3, i64 b.fin.n] 51) = W1 := ⟨_, rfl⟩
  obtain ⟨o1, b1, z1⟩ := box8 (c := [str b.name, .slice A1 b.phis.length k1, .slice A2 b.code.length k2, i64 b.fin.kind, i64 b.fin.a.kind, str b.fin.a.s, i64 b.fin.a.n, .slice A3 b.fin.dest.length k3, i64 b.fin.n]) hW1
  obtain ⟨W2, hW2⟩ : ∃ W2, W1.alloc (.cells #[.map none, .map none, .map none, .slice none 0 0] 75) = W2 := ⟨_, rfl⟩
  obtain ⟨o2, b2, z2⟩ := box8 (c := [.map none, .map none, .map none, .slice none 0 0]) hW2
  obtain ⟨W4, hW4⟩ : ∃ W4, (W2.alloc (.map #[] 0)).alloc (.map #[] 0) = W4 := ⟨_, rfl⟩
  have zz : (W2.alloc (.map #[] 0)).heap.size = W2.heap.size + 1 := by simp
  have HS1 := Lib.hid (show SetO U W4 (w.heap.size + 1 + 1) (fun y => decide (y ∈ (b.phis.map (·.dst)).take 0)) from by
    rw [← hW4, show w.heap.size + 1 + 1 = W2.heap.size by omega]
    exact ((SetO.made U W2).alloc _).same fun y => by simp)
  have HS2 := Lib.hid (show SetO U W4 (w.heap.size + 1 + 1 + 1) (fun y => decide (y ∈ setsL (b.code.take 0))) from by
    have h := SetO.made U (W2.alloc (.map #[] 0))
    rw [hW4, zz, z2, z1] at h
    exact h.same fun y => by simp [setsL])
  have hb24 : Below W2.heap.size W2 W4 := by
    rw [← hW4]
    exact ((Below.refl _ _).alloc (Nat.le_refl _) _).alloc (by omega) _
  have HB4 := Lib.hid (show Below w.heap.size w W4 from (b1.trans (b2.mono (by omega))).trans (hb24.mono (by omega)))
  have HO1 := Lib.hid ((o1.below b2 o1.lt).below hb24 (by omega))
  have HO2 := Lib.hid (show Mem.Own W4 (w.heap.size + 1) 75 [.map none, .map none, .map none, .slice none 0 0] from by rw [← z1]; exact o2.below hb24 o2.lt)
  have HZ4 := Lib.hid (show W4.heap.size = w.heap.size + 4 from by rw [← hW4]; simp; omega)
  have HW := Lib.hid (show _ ∧ _ ∧ _ ∧ _ from ⟨hW1, hW2, hW4, z1⟩)
  clear hph hco hto hP hI o1 b1 o2 b2 hW1 hW2 hW4 hb24 zz z1 z2
  go_enter Tryz.func35, Tryz.ntmps35
  go_wp2_with fail
  rw [HW.out.1, HW.out.2.1, HW.out.2.2.1]
  go_loopw [14] (fun iv wr => ∃ k : Nat, k ≤ b.phis.length ∧ iv = .int .i64 k ∧ Hid (SetO U wr (w.heap.size + 1 + 1) (fun y => decide (y ∈ (b.phis.map (·.dst)).take k))) ∧ Hid (w.heap.size + 4 ≤ wr.heap.size ∧ wr.heap[w.heap.size]? = W4.heap[w.heap.size]? ∧ wr.heap[w.heap.size + 1]? = W4.heap[w.heap.size + 1]? ∧ SetO U wr (w.heap.size + 1 + 1 + 1) (fun y => decide (y ∈ setsL (b.code.take 0)))) ∧ Hid (Below w.heap.size w wr)) (fun iv _ => b.phis.length - (intOf iv).toNat)
  case atStart => exact ⟨0, Nat.zero_le _, rfl, HS1, Lib.hid ⟨by rw [HZ4.out]; omega, rfl, rfl, HS2.out⟩, HB4⟩
  case round =>
  clear HS1 HS2 HB4 hmm
  obtain ⟨k, hk, rfl, HS, HK, HB⟩ := hrel
  have hsz := HK.out.1
  by_cases hlt : k < b.phis.length
  · obtain ⟨p, hx⟩ : ∃ y, b.phis[k]? = some y := ⟨_, List.getElem?_eq_getElem hlt⟩
    obtain ⟨b3, o3, rfl, hb3, cs3, hcl3, hcs3, u4, e3, kin⟩ := row_at HPH.out hx
    subst e3
    obtain ⟨A4, k4, rfl⟩ := Row.form kin
    obtain ⟨m0, m1⟩ := at2 (cells_later hcs3 (HB.out.mono hh) hb3)
    have hxU := HP.out p (List.mem_of_getElem? hx)
    have HSv := Lib.hid (show SetO U (wr.alloc (.cells #[str p.dst, .slice A4 p.ins.length k4] 64)) (w.heap.size + 1 + 1) _ from HS.out.alloc _)
    obtain ⟨D, d1, d2, d3, d4⟩ := set_put hU HSv.out p.dst hxU
    have D1 := Lib.hid d1
    have D3 := Lib.hid d3
    have D4 := Lib.hid d4
    have hgv := World.grownBy_alloc wr (.cells #[str p.dst, .slice A4 p.ins.length k4] 64) none
    have HGV := Lib.hid hgv
    have HNX := Lib.hid (addS_mem (l := b.phis.map (·.dst)) (k := k) (x := p.dst) (by rw [List.getElem?_map, hx]; rfl))
    clear hx hcs3 d1 d3 d4 HS kin hgv
    go_wp2_with (at_mapUpdate; refine wpList_mapUpdate_own _ rfl _ _ _ 73 rfl 9 112 lawS Tryz.underlying73 _ (w.heap.size + 1 + 1) _ _ rfl D1.out d2 _ _ _ rfl rfl D3.out _ [] unitElem_mk ?_; intro w9 hown9 hg9; have HO9 := Lib.hid (D4.out w9 _ hown9); have HG9 := Lib.hid (show wr.grownBy w9 (some (w.heap.size + 1 + 1)) from grown_trans (grown_but HGV.out _) hg9); clear hown9 hg9)
    go_roundw
    case rel => exact ⟨k + 1, by omega, by go_num, by rw [← HNX.out]; exact HO9, Lib.hid ⟨Nat.le_trans hsz HG9.out.size, (HG9.out.block _ (by omega) (by simp only [ne_eq, Option.some.injEq]; omega)).trans HK.out.2.1, (HG9.out.block _ (by omega) (by simp only [ne_eq, Option.some.injEq]; omega)).trans HK.out.2.2.1, HK.out.2.2.2.grown HG9.out (by simp only [ne_eq, Option.some.injEq]; omega)⟩, Lib.hid (HB.out.grown HG9.out (by omega) (fun j hj => by cases hj; omega))⟩
    case measure => simp [intOf]; omega
  · obtain rfl : k = b.phis.length := by omega
    have HSP := Lib.hid (HS.out.same (S' := fun y => decide (y ∈ b.phis.map (·.dst))) (fun y => by rw [List.take_of_length_le (by rw [List.length_map]; exact Nat.le_refl _)]))
    have hob : Mem.Own wr w.heap.size 51 [str b.name, .slice A1 b.phis.length k1, .slice A2 b.code.length k2, i64 b.fin.kind, i64 b.fin.a.kind, str b.fin.a.s, i64 b.fin.a.n, .slice A3 b.fin.dest.length k3, i64 b.fin.n] := HK.out.2.1.trans HO1.out
    have m2 := hob.cell 2
    simp only [List.getElem?_cons_succ, List.getElem?_cons_zero] at m2
    clear hob
    have HSX := Lib.hid HK.out.2.2.2
    have HK2 := Lib.hid (show w.heap.size + 4 ≤ wr.heap.size ∧ wr.heap[w.heap.size + 1]? = W4.heap[w.heap.size + 1]? from ⟨HK.out.1, HK.out.2.2.1⟩)
    clear HK HS
    go_wp2_with fail
    go_loopw [26] (fun iv wr => ∃ k : Nat, k ≤ b.code.length ∧ iv = .int .i64 k ∧ Hid (SetO U wr (w.heap.size + 1 + 1 + 1) (fun y => decide (y ∈ setsL (b.code.take k)))) ∧ Hid (SetO U wr (w.heap.size + 1 + 1) (fun y => decide (y ∈ b.phis.map (·.dst)))) ∧ Hid (w.heap.size + 4 ≤ wr.heap.size ∧ wr.heap[w.heap.size + 1]? = W4.heap[w.heap.size + 1]?) ∧ Hid (Below w.heap.size w wr)) (fun iv _ => b.code.length - (intOf iv).toNat)
    case atStart => exact ⟨0, Nat.zero_le _, rfl, HSX, HSP, HK2, HB⟩
    case round =>
    clear HSX HSP HK2 HB m2
    obtain ⟨k, hk, rfl, HSX, HSP, HK, HB⟩ := hrel
    have hsz := HK.out.1
    by_cases hlt : k < b.code.length
    · obtain ⟨p, hx⟩ : ∃ y, b.code[k]? = some y := ⟨_, List.getElem?_eq_getElem hlt⟩
      obtain ⟨b3, o3, rfl, hb3, cs3, hcl3, hcs3, v1, v2, v3, e3, j1, j2, j3⟩ := row_at HCO.out hx
      subst e3
      obtain ⟨B1, q1, rfl⟩ := Row.form j1
      obtain ⟨B2, q2, rfl⟩ := Row.form j2
      obtain ⟨B3, q3, rfl⟩ := Row.form j3
      obtain ⟨m0, m1, m2, m3, m4, m5⟩ := at6 (cells_later hcs3 (HB.out.mono hh) hb3)
      have hxU := HI.out p (List.mem_of_getElem? hx)
      have hgv := World.grownBy_alloc wr (.cells #[i64 p.op, str p.dst, str p.name, .slice B1 p.args.length q1, .slice B2 p.frames.length q2, .slice B3 p.objs.length q3] 43) none
      have HGV := Lib.hid hgv
      have HNX := Lib.hid (setsL_next hx)
      by_cases h0 : p.dst = []
      · have e1 : (!p.dst.isEmpty) = false := by rw [h0]; rfl
        have hnx := HNX.out
        rw [if_pos h0] at hnx
        have HNX0 := Lib.hid hnx
        clear hx hcs3 j1 j2 j3 hgv hnx h0
        go_wp2_with fail
        go_roundw
        case rel => exact ⟨k + 1, by omega, by go_num, by rw [HNX0.out]; exact Lib.hid (HSX.out.alloc _), Lib.hid (HSP.out.alloc _), Lib.hid ⟨Nat.le_trans hsz HGV.out.size, (HGV.out.block _ (by omega) (by simp)).trans HK.out.2⟩, Lib.hid (HB.out.alloc HB.out.size _)⟩
        case measure => simp [intOf]; omega
      · have e1 : (!p.dst.isEmpty) = true := by cases hx2 : p.dst with
          | nil => exact absurd hx2 h0
          | cons => rfl
        have hnx := HNX.out
        rw [if_neg h0] at hnx
        have HNX0 := Lib.hid hnx
        have HSv := Lib.hid (show SetO U (wr.alloc (.cells #[i64 p.op, str p.dst, str p.name, .slice B1 p.args.length q1, .slice B2 p.frames.length q2, .slice B3 p.objs.length q3] 43)) (w.heap.size + 1 + 1 + 1) _ from HSX.out.alloc _)
        obtain ⟨D, d1, d2, d3, d4⟩ := set_put hU HSv.out p.dst hxU
        have D1 := Lib.hid d1
        have D3 := Lib.hid d3
        have D4 := Lib.hid d4
        clear hx hcs3 j1 j2 j3 hgv hnx h0 d1 d3 d4
        go_wp2_with (at_mapUpdate; refine wpList_mapUpdate_own _ rfl _ _ _ 73 rfl 9 112 lawS Tryz.underlying73 _ (w.heap.size + 1 + 1 + 1) _ _ rfl D1.out d2 _ _ _ rfl rfl D3.out _ [] unitElem_mk ?_; intro w9 hown9 hg9; have HO9 := Lib.hid (D4.out w9 _ hown9); have HG9 := Lib.hid (show wr.grownBy w9 (some (w.heap.size + 1 + 1 + 1)) from grown_trans (grown_but HGV.out _) hg9); clear hown9 hg9)
        go_roundw
        case rel => exact ⟨k + 1, by omega, by go_num, by rw [HNX0.out]; exact HO9, Lib.hid (HSP.out.grown HG9.out (by simp only [ne_eq, Option.some.injEq]; omega)), Lib.hid ⟨Nat.le_trans hsz HG9.out.size, (HG9.out.block _ (by omega) (by simp only [ne_eq, Option.some.injEq]; omega)).trans HK.out.2⟩, Lib.hid (HB.out.grown HG9.out (by omega) (fun j hj => by cases hj; omega))⟩
        case measure => simp [intOf]; omega
    · obtain rfl : k = b.code.length := by omega
      have HSF := Lib.hid (HSX.out.same (S' := fun y => decide (y ∈ setsL b.code)) (fun y => by rw [List.take_length]))
      have hob : Mem.Own wr (w.heap.size + 1) 75 [.map none, .map none, .map none, .slice none 0 0] := HK.out.2.trans HO2.out
      have r0 := hob.cell 0
      have r1 := hob.cell 1
      have r2 := hob.cell 2
      have r3 := hob.cell 3
      have t0 := hob.thaw 0
      have t1 := hob.thaw 1
      have t2 := hob.thaw 2
      have t3 := hob.thaw 3
      simp only [List.getElem?_cons_succ, List.getElem?_cons_zero] at r0 r1 r2 r3
      have HOB := Lib.hid hob
      have hbl := hob.lt
      clear hob
      go_wp2_with fail
      have gg := grown_trans (grown_trans (grown_trans (grown_cell wr ⟨w.heap.size + 1, 0, none⟩ (.map (some (w.heap.size + 1 + 1)))) (grown_cell _ ⟨w.heap.size + 1, 1, none⟩ (.map (some (w.heap.size + 1 + 1 + 1))))) (grown_cell _ ⟨w.heap.size + 1, 2, none⟩ (.map none))) (grown_cell _ ⟨w.heap.size + 1, 3, none⟩ (.slice none 0 0))
      refine bodyPost_ret (v := .agg #[.map (some (w.heap.size + 1 + 1)), .map (some (w.heap.size + 1 + 1 + 1)), .map none, .slice none 0 0]) (by rw [results_cell13 rfl]; go_simp) rfl ?_
      exact ⟨_, _, rfl, by omega, by omega, by omega, HSP.out.grown gg (by simp only [ne_eq, Option.some.injEq]; omega), HSF.out.grown gg (by simp only [ne_eq, Option.some.injEq]; omega), HB.out.grown gg (by omega) (fun j hj => by cases hj; simp only; omega)⟩
end Go.Proofs.YtdgmdpphimenjaaGreatDoor.As13

/-
  Layer 13: a set laid into another one; a set's copy.
-/
namespace Go.Proofs
open Go.RowKit Go.Maps Go.Sort Go.Shelf
shelf_lay_g SlLaysW.n5 Slmc 5 at Tryz 54 as Tryz.cloneL13
end Go.Proofs
namespace Go.Proofs.YtdgmdpphimenjaaGreatDoor.As13
open Go.RowKit Api Mem Sh8 Go.Maps Lv12 Go.Sort Go.Shelf
theorem clone13_any {U : List Wd} {w : World} {g : Nat} {S : Wd → Bool} (h : SetO U w g S) : Calls Tryz.prog 54 #[.map (some g)] w fun e w' => e = .returned (.map (some w.heap.size)) ∧ SetO U w' w.heap.size S ∧ Below w.heap.size w w' := by
  obtain ⟨⟨D, h1, h2⟩, h3⟩ := h
  exact (AnyW.maps_Clone_owns Tryz.cloneL13 9 unitElem g _ D w h1).mono fun e w' ⟨q1, q2, _, q4⟩ => ⟨q1, ⟨⟨D, own_size q2, h2⟩, h3⟩, q4⟩
set_option maxRecDepth 100000 in
set_option maxHeartbeats 8000000 in
theorem copy_any {U : List Wd} (hU : UOk U) {w : World} {bd bs : Nat} {Sd Ss : Wd → Bool} (hd : SetO U w bd Sd) (hs : SetO U w bs Ss) (hne : bd ≠ bs) :
    Calls Tryz.prog 55 #[.map (some bd), .map (some bs)] w fun e w' => e = .returned (.tuple #[]) ∧ SetO U w' bd (fun y => Sd y || Ss y) ∧ w.grownBy w' (some bd) := by
  obtain ⟨D, hD1, hD2, hD3, hD4, hD5, hD6⟩ := hs.keys
  have HD := Lib.hid hD1
  have HD2 := Lib.hid hD2
  have HSD := Lib.hid hd
  have HSS := Lib.hid hs
  have hdl := hd.lt
  have hsl := hs.lt
  clear hD1 hD2 hD3 hD4 hD5 hD6 hd hs
  go_enter Tryz.func55, Tryz.ntmps55
  go_wp2_with (at_range; refine wpList_range_own _ rfl _ 73 rfl 9 112 lawS Tryz.underlying73 _ bs _ D rfl HD.out ?_; intro w0 hrg0 hg0 hs0)
  go_frame
  obtain ⟨rb, hrb⟩ : ∃ r, w.heap.size = r := ⟨_, rfl⟩
  rw [hrb] at hrg0 hs0 ⊢
  have HRG0 := Lib.hid hrg0
  have HG0 := Lib.hid (GoT.start Sd (fun _ => false) D)
  have HT0 := Lib.hid (HSD.out.grown hg0 (by simp))
  have HBr0 := Lib.hid (show w.grownBy w0 (some bd) from grown_but hg0 _)
  have HRB := Lib.hid hrb
  clear hrg0 hg0 hs0 hrb
  go_loopw [4] (fun _ wr => ∃ (left : Lit → Bool) (cnt : Nat) (T : Wd → Bool), Hid (wr.ranges Tryz.prog 9 unitElem bs rb (size D) D left cnt) ∧ Hid (GoT Sd (fun _ => false) D left T) ∧ Hid (SetO U wr bd T) ∧ Hid (w.grownBy wr (some bd))) (fun _ wr => wr.rangeLeft bs rb)
  case atStart => exact ⟨_, _, _, HRG0, HG0, HT0, HBr0⟩
  case round =>
  clear HRG0 HG0 HT0 HBr0
  obtain ⟨left, cnt, T, HRG, HGO, HT, HBr⟩ := hrel
  go_wp2_with (at_next; refine next_set _ rfl _ rfl 9 lawS Tryz.underlying9 bs rb _ D _ _ rfl HRG.out ?_ ?_)
  · intro hc0 hl0
    have HE9 := Lib.hid (HT.out.same (S' := fun y => Sd y || Ss y) (fun y => by rw [HGO.out.fin hl0 y, HD2.out]; simp))
    clear hl0
    go_wp2_with fail
    go_end0
    exact ⟨rfl, HE9.out, HBr.out⟩
  · intro x w1 cnt1 hlx hrg1 hlt1 hg1 hs1 hen
    have hxU : x ∈ U := HSS.out.2 x (by rw [← HD2.out]; exact HGO.out.1 _ hlx)
    have hrbe := HRB.out
    have hT1 := (HT.out.grown hg1 (by simp only [ne_eq, Option.some.injEq]; omega)).alloc (.cells #[] 112)
    obtain ⟨D9, d1, d2, d3, d4⟩ := set_put hU hT1 x hxU
    have D1 := Lib.hid d1
    have D3 := Lib.hid d3
    have D4 := Lib.hid d4
    have HBr1 := Lib.hid (show w.grownBy (w1.alloc (.cells #[] 112)) (some bd) from grown_trans (HBr.out.andThen hg1 fun j e => .inl (by cases e; omega)) (grown_but (World.grownBy_alloc w1 _ none) _))
    have HRG1 := Lib.hid (hrg1.alloc (.cells #[] 112))
    have HLT := Lib.hid hlt1
    have HG5 := Lib.hid (HGO.out.add hlx (show (fun _ : Wd => false) x = false from rfl))
    clear hrg1 hlt1 hg1 hs1 hT1 d1 d3 d4 hlx
    go_wp2_with (at_mapUpdate; refine wpList_mapUpdate_own _ rfl _ _ _ 73 rfl 9 112 lawS Tryz.underlying73 _ bd _ _ rfl D1.out d2 _ _ _ rfl rfl D3.out _ [] unitElem_mk ?_; intro w9 hown9 hg9; have HO9 := Lib.hid (D4.out w9 _ hown9); have HB9 := Lib.hid (grown_trans HBr1.out hg9); have HRG9 := Lib.hid (HRG1.out.kept hg9 (by simp only [ne_eq, Option.some.injEq]; omega) (by simp only [ne_eq, Option.some.injEq]; omega)); clear hown9 hg9)
    go_roundw
    case rel => exact ⟨_, _, _, _, _, _, _, _, _, _, ⟨_, cnt1, _, HRG9, HG5, HO9, HB9⟩, rfl⟩
    case measure => rw [HRG9.out.left_eq, HRG.out.left_eq]; exact HLT.out
end Go.Proofs.YtdgmdpphimenjaaGreatDoor.As13

/-
  Layer 13: what a block is told by one that leads to it.
-/
namespace Go.Proofs.YtdgmdpphimenjaaGreatDoor.As13
open Go.RowKit Api Mem Sh8 Go.Maps Lv12

/-- what a first way gives; what a further one cuts. -/
def MeetP (U : List Wd) (w : World) (base B n m : Nat) (d : Nat → Bool) (c : Nat → Nat) (S : Nat → Wd → Bool) (vl : Nat → Value) (lo : Nat → List Wd) (a t : Nat) (w' : World) : Prop :=
  (d t = false ∧ ∃ g, As U w' base B n m (upd d t true) (upd c (4 * t + 3) g) (upd S (4 * t + 3) (fun x => (S (4 * a + 3) x || S (4 * a + 1) x) || S (4 * t) x)) vl lo) ∨
  (d t = true ∧ ∃ L' add v' bh, (∀ x, x ∈ bh ↔ S (4 * t + 3) x = true ∧ S (4 * a + 3) x = false ∧ S (4 * a + 1) x = false) ∧ Los (S (4 * t)) (S (4 * t + 3)) L' bh add ∧ As U w' base B n m d c (upd S (4 * t + 3) L') (upd vl t v') (upd lo t (lo t ++ add)))
/-- the names that a going through has cut so far. -/
structure Cut (T A X : Wd → Bool) (D : DataW Unit) (left : Lit → Bool) (bh : List Wd) : Prop where
  nd : bh.Nodup
  sub : ∀ kl, left kl = true → has D kl = true
  is : ∀ x ∈ bh, (T x = true ∧ A x = false ∧ X x = false) ∧ left (kS x) = false
  all : ∀ x, T x = true → A x = false → X x = false → left (kS x) = true ∨ x ∈ bh
theorem Cut.start {T A X : Wd → Bool} {D : DataW Unit} (h : ∀ x, has D (kS x) = T x) : Cut T A X D (has D) [] := ⟨List.nodup_nil, fun _ h => h, fun x h => (by cases h), fun x h1 _ _ => .inl (by rw [h]; exact h1)⟩
theorem Cut.skip {T A X : Wd → Bool} {D : DataW Unit} {left : Lit → Bool} {bh : List Wd} (h : Cut T A X D left bh) {x : Wd} (hx : A x = true ∨ X x = true) : Cut T A X D (fun z => left z && !z.sameKey (kS x)) bh := by
  refine ⟨h.nd, fun kl hk => h.sub kl (by simp only [Bool.and_eq_true] at hk; exact hk.1), fun y hy => ⟨(h.is y hy).1, by simp only [(h.is y hy).2, Bool.false_and]⟩, fun y h1 h2 h3 => ?_⟩
  rcases h.all y h1 h2 h3 with q | q
  · left
    show (left (kS y) && !(kS y).sameKey (kS x)) = true
    rw [same_kS, q]
    by_cases e : y = x
    · subst e
      rcases hx with hx | hx
      · rw [h2] at hx; cases hx
      · rw [h3] at hx; cases hx
    · simp [e]
  · exact .inr q
theorem Cut.add {T A X : Wd → Bool} {D : DataW Unit} {left : Lit → Bool} {bh : List Wd} (h : Cut T A X D left bh) (hD : ∀ x, has D (kS x) = T x) {x : Wd} (hl : left (kS x) = true) (h2 : A x = false) (h3 : X x = false) : Cut T A X D (fun z => left z && !z.sameKey (kS x)) (bh ++ [x]) := by
  refine ⟨?_, fun kl hk => h.sub kl (by simp only [Bool.and_eq_true] at hk; exact hk.1), fun y hy => ?_, fun y q1 q2 q3 => ?_⟩
  · rw [List.nodup_append]
    exact ⟨h.nd, by simp, fun a ha b hb e => by
      rw [List.mem_singleton] at hb
      subst hb
      subst e
      have := (h.is _ ha).2
      rw [hl] at this
      cases this⟩
  · rcases List.mem_append.1 hy with hy | hy
    · exact ⟨(h.is y hy).1, by simp only [(h.is y hy).2, Bool.false_and]⟩
    · rw [List.mem_singleton] at hy
      subst hy
      exact ⟨⟨by rw [← hD]; exact h.sub _ hl, h2, h3⟩, by show (left (kS y) && !(kS y).sameKey (kS y)) = false; rw [same_kS]; simp⟩
  · rcases h.all y q1 q2 q3 with q | q
    · by_cases e : y = x
      · exact .inr (by simp [e])
      · left
        show (left (kS y) && !(kS y).sameKey (kS x)) = true
        rw [same_kS, q]
        simp [e]
    · exact .inr (List.mem_append_left _ q)
theorem Cut.fin {T A X : Wd → Bool} {D : DataW Unit} {left : Lit → Bool} {bh : List Wd} (h : Cut T A X D left bh) (h0 : ∀ kl, left kl = false) : ∀ x, x ∈ bh ↔ T x = true ∧ A x = false ∧ X x = false := fun x => ⟨fun hx => (h.is x hx).1, fun ⟨h1, h2, h3⟩ => by
  rcases h.all x h1 h2 h3 with q | q
  · rw [h0] at q; cases q
  · exact q⟩
section
variable {w : World} {b r n cnt : Nat} {D : DataW Unit} {left : Lit → Bool} {k : TypeId} {R : Value → Option (DataW Unit × List MemPlace)}
theorem ranges_iter {P : Program} (h : w.ranges P k R b r n D left cnt) : ∃ o : Obj, w.heap[r]? = some o ∧ o.isCells = false := by
  obtain ⟨es, clock, since, seen, c0, _, _, _, _, hr, _⟩ := h
  exact ⟨_, hr, rfl⟩
theorem ranges_map {P : Program} (h : w.ranges P k R b r n D left cnt) : ∃ o : Obj, w.heap[b]? = some o ∧ o.isCells = false := by
  obtain ⟨es, clock, since, seen, c0, hb, _⟩ := h
  exact ⟨_, hb, rfl⟩
theorem row_not {base size m : Nat} {e : TypeId} {v : Value} {xs : List Value} (h : w.ownsRow base e size v m xs) {q : Nat} (hq : ∃ o : Obj, w.heap[q]? = some o ∧ o.isCells = false) : some q ≠ v.ownBlock := fun e1 => by
  rcases h.2 with ⟨e9, _⟩ | ⟨g, cap, cur2, e9, _, hk, _⟩
  · rw [e9] at e1; cases e1
  · rw [e9] at e1
    cases e1
    exact notT_walk hq e _ _ hk
end
theorem nil_yes (W : World) : (binOp BinOp.eql 73 (.map none) (.map none)).run Tryz.prog W = .ok (.bool true) W := by kernel_rfl
theorem nil_not (g : Nat) (W : World) : (binOp BinOp.eql 73 (.map (some g)) (.map none)).run Tryz.prog W = .ok (.bool false) W := by kernel_rfl
set_option maxRecDepth 100000 in
set_option maxHeartbeats 8000000 in
theorem meet_any {U : List Wd} (hU : UOk U) {w : World} {base B n m : Nat} {d : Nat → Bool} {c : Nat → Nat} {S : Nat → Wd → Bool} {vl : Nat → Value} {lo : Nat → List Wd} (h : As U w base B n m d c S vl lo) (hb : base ≤ w.heap.size) {a t : Nat} (ha : a < n) (ham : a < m) (hda : d a = true) (ht : t < n) (htm : t < m) (hgl : (lo t).length ≤ 1000000000000) :
    Calls Tryz.prog 37 #[.pointer (some ⟨B, t * 4, none⟩), .agg #[.map (some (c (4 * a))), .map (some (c (4 * a + 1))), .map (some (c (4 * a + 3))), vl a]] w fun e w' => e = .returned (.tuple #[]) ∧ MeetP U w base B n m d c S vl lo a t w' ∧ Below base w w' ∧ KeepI w w' := by
  have HK0 := Lib.hid (show OkD n m d (4 * t) from ⟨by omega, .inl ⟨by omega, by omega⟩⟩)
  have HA3 := Lib.hid (show OkD n m d (4 * a + 3) from ⟨by omega, .inr (.inr ⟨by omega, by rw [show (4 * a + 3) / 4 = a by omega]; exact hda⟩)⟩)
  have HA1 := Lib.hid (show OkD n m d (4 * a + 1) from ⟨by omega, .inr (.inl ⟨by omega, by omega⟩)⟩)
  obtain ⟨dt, hdt⟩ : ∃ dt, d t = dt := ⟨_, rfl⟩
  have n2 := (h.cell ht (show 2 < 4 by omega)).trans (congrArg some (show FA m d c vl t 2 = .map (if dt = true then some (c (4 * t + 3)) else none) from by simp [FA, hdt]))
  obtain ⟨W, hW⟩ : ∃ W, w.alloc (.cells #[.map (some (c (4 * a))), .map (some (c (4 * a + 1))), .map (some (c (4 * a + 3))), vl a] 75) = W := ⟨_, rfl⟩
  obtain ⟨o1, b1, z1⟩ := box8 (c := [.map (some (c (4 * a))), .map (some (c (4 * a + 1))), .map (some (c (4 * a + 3))), vl a]) hW
  have HST := Lib.hid (h.below b1)
  have HO := Lib.hid o1
  have HB := Lib.hid (b1.mono hb)
  have HKI := Lib.hid (KeepI.below b1)
  have HW := Lib.hid hW
  have HBt := Lib.hid (show w.heap.size ≠ B from by have := h.out.lt; omega)
  have HDT := Lib.hid hdt
  have hBlt : B < w.heap.size := h.out.lt
  have hWz : w.heap.size < W.heap.size := o1.lt
  obtain ⟨va, hva⟩ : ∃ va, vl a = va := ⟨_, rfl⟩
  rw [hva] at HO HW ⊢
  clear h o1 b1 hW hdt hva
  have HVA := Lib.hid (show ∀ (W' : World), Mem.Own W' w.heap.size 75 [.map (some (c (4 * a))), .map (some (c (4 * a + 1))), .map (some (c (4 * a + 3))), va] → (W'.cell? ⟨w.heap.size, 1, none⟩ = some (.map (some (c (4 * a + 1)))) ∧ W'.cell? ⟨w.heap.size, 2, none⟩ = some (.map (some (c (4 * a + 3))))) from fun W' o => ⟨(o.cell 1).trans rfl, (o.cell 2).trans rfl⟩)
  cases dt with
  | false =>
    simp only [Bool.false_eq_true, if_false] at n2
    have hn := nil_yes
    have HQ1 := Lib.hid (clone13_any (HST.out.ms.set _ HA3.out))
    go_enter Tryz.func37, Tryz.ntmps37
    go_wp2_with fail
    rw [HW.out]
    refine HQ1.out.mono ?_
    rintro e w2 ⟨rfl, h2, b2⟩
    obtain ⟨g, hg⟩ : ∃ g, W.heap.size = g := ⟨_, rfl⟩
    rw [hg] at h2 ⊢
    have hst2 := HST.out.below b2
    have n2b := (hst2.cell ht (show 2 < 4 by omega)).trans (congrArg some (show FA m d c vl t 2 = .map none from by simp [FA, HDT.out]))
    have t2b := hst2.out.thaw (t * 4 + 2)
    have HS3 := Lib.hid (HST.out.newset (i := t) b2 (by omega : W.heap.size ≤ g) (Nat.le_trans hb (by omega)) h2)
    obtain ⟨W3, hW3⟩ : ∃ W3, w2.setCell ⟨B, t * 4 + 2, none⟩ (.map (some g)) = W3 := ⟨_, rfl⟩
    rw [hW3] at HS3
    have gc := grown_cell w2 ⟨B, t * 4 + 2, none⟩ (.map (some g))
    rw [hW3] at gc
    have HO3 := Lib.hid (own_kept (HO.out.below b2 hWz) gc (by exact HBt.out))
    have HB3 := Lib.hid (show Below base w W3 from (HB.out.trans (b2.mono (by omega))).grown gc (by have := b2.size; omega) (fun j hj => by cases hj; exact HST.out.ob))
    have HKI3 := Lib.hid (show KeepI w W3 from (HKI.out.trans (KeepI.below b2)).trans (KeepI.grown gc (fun b e => by cases e; exact hst2.out.notT (by decide))))
    have HGZ := Lib.hid (show w.heap.size < g ∧ g < W3.heap.size from ⟨by omega, by have := h2.lt; have := gc.size; omega⟩)
    have HKg := Lib.hid (show OkD n m (upd d t true) (4 * t + 3) from ⟨by omega, .inr (.inr ⟨by omega, by rw [show (4 * t + 3) / 4 = t by omega, upd_at]⟩)⟩)
    have HKA1 := Lib.hid (show OkD n m (upd d t true) (4 * a + 1) from ⟨by omega, .inr (.inl ⟨by omega, by omega⟩)⟩)
    have HKT0 := Lib.hid (show OkD n m (upd d t true) (4 * t) from ⟨by omega, .inl ⟨by omega, by omega⟩⟩)
    have HLT := Lib.hid (show c (4 * a + 1) < g ∧ c (4 * t) < g from ⟨by have := (HST.out.ms.set _ HA1.out).lt; omega, by have := (HST.out.ms.set _ HK0.out).lt; omega⟩)
    obtain ⟨p1, p2⟩ := HVA.out W3 HO3.out
    have q2 := (HS3.out.cell ht (show 2 < 4 by omega)).trans (congrArg some (show FA m (upd d t true) (upd c (4 * t + 3) g) vl t 2 = .map (some g) from by simp [FA, upd_at]))
    have hsd := HS3.out.ms.set _ HKg.out
    have hsa := HS3.out.ms.set _ HKA1.out
    rw [upd_at, upd_at] at hsd
    rw [upd_ne _ _ (by omega : 4 * a + 1 ≠ 4 * t + 3), upd_ne _ _ (by omega : 4 * a + 1 ≠ 4 * t + 3)] at hsa
    have HQ2 := Lib.hid (copy_any hU hsd.drew hsa.drew (by have := HLT.out.1; omega))
    have HW3 := Lib.hid hW3
    have HHG := Lib.hid hg
    clear h2 b2 hst2 gc hW3 hsd hsa hg HQ1 n2
    go_wp2_with fail
    rw [HW3.out]
    go_still_tail 6, (by kernel_rfl)
    change wpList _ _ _ _ _ W3.drew
    go_wp2_with fail
    refine HQ2.out.mono ?_
    rintro e w4 ⟨rfl, h4, g4⟩
    have g4' := grown_of_drew g4
    have hst4 := HS3.out.putm (x := 4 * t + 3) (T := fun y => S (4 * a + 3) y || S (4 * a + 1) y) HKg.out (by rw [upd_at]; exact g4') (by rw [upd_at]; exact h4)
    rw [upd_upd] at hst4
    have HS4 := Lib.hid hst4
    have HB4 := Lib.hid (show Below base w w4 from HB3.out.grown g4' (by have := HB3.out.size; omega) (fun j hj => by cases hj; have := HGZ.out.1; omega))
    have HKI4 := Lib.hid (show KeepI w w4 from HKI3.out.trans (KeepI.grown g4' (fun b e => by cases e; exact notT_map (by have h := HS3.out.ms.set _ HKg.out; rw [upd_at, upd_at] at h; exact h) _)))
    have r2 := (HS4.out.cell ht (show 2 < 4 by omega)).trans (congrArg some (show FA m (upd d t true) (upd c (4 * t + 3) g) vl t 2 = .map (some g) from by simp [FA, upd_at]))
    have r0 := (HS4.out.cell ht (show 0 < 4 by omega)).trans (congrArg some (show FA m (upd d t true) (upd c (4 * t + 3) g) vl t 0 = .map (some (c (4 * t))) from by
      simp only [FA, htm, if_true]
      rw [upd_ne _ _ (by omega)]))
    simp only [Nat.add_zero] at r0
    have hsd := HS4.out.ms.set _ HKg.out
    have hst0 := HS4.out.ms.set _ HKT0.out
    rw [upd_at, upd_at] at hsd
    rw [upd_ne _ _ (by omega : 4 * t ≠ 4 * t + 3), upd_ne _ _ (by omega : 4 * t ≠ 4 * t + 3)] at hst0
    have HQ3 := Lib.hid (copy_any hU hsd.drew hst0.drew (by have := HLT.out.2; omega))
    clear h4 g4 g4' hst4 hsd hst0 p1 p2 q2 n2b t2b
    go_wp2_with fail
    go_still_tail 8, (by kernel_rfl)
    change wpList _ _ _ _ _ w4.drew
    go_wp2_with fail
    refine HQ3.out.mono ?_
    rintro e w5 ⟨rfl, h5, g5⟩
    have g5' := grown_of_drew g5
    have hst5 := HS4.out.putm (x := 4 * t + 3) (T := fun y => (S (4 * a + 3) y || S (4 * a + 1) y) || S (4 * t) y) HKg.out (by rw [upd_at]; exact g5') (by rw [upd_at]; exact h5)
    rw [upd_upd] at hst5
    have HS5 := Lib.hid hst5
    have HB5 := Lib.hid (show Below base w w5 from HB4.out.grown g5' (by have := HB4.out.size; omega) (fun j hj => by cases hj; have := HGZ.out.1; omega))
    have HKI5 := Lib.hid (show KeepI w w5 from HKI4.out.trans (KeepI.grown g5' (fun b e => by cases e; exact notT_map (by have h := HS4.out.ms.set _ HKg.out; rw [upd_at, upd_at] at h; exact h) _)))
    clear h5 g5 g5' hst5 r0 r2
    go_wp2_with fail
    exact bodyPost_ret (v := .tuple #[]) (by simp [results, Tryz.f37, go_sem]) rfl ⟨rfl, .inl ⟨HDT.out, g, HS5.out⟩, HB5.out, HKI5.out⟩
  | true =>
    simp only [if_true] at n2
    have hn := nil_not
    obtain ⟨D, hD1, hD2, hD3, hD4, hD5, hD6⟩ := (HST.out.ms.set (4 * t + 3) ⟨by omega, .inr (.inr ⟨by omega, by rw [show (4 * t + 3) / 4 = t by omega]; exact HDT.out⟩)⟩).keys
    have HD := Lib.hid hD1
    have HD2 := Lib.hid hD2
    have HDL := Lib.hid (show (w.alloc (.cells #[.map (some (c (4 * a))), .map (some (c (4 * a + 1))), .map (some (c (4 * a + 3))), va] 75)).ownsMap Tryz.prog 9 unitElem (c (4 * t + 3)) (size D) D from by rw [HW.out]; exact HD.out)
    clear hD1 hD2 hD3 hD4 hD5 hD6
    go_enter Tryz.func37, Tryz.ntmps37
    go_wp2_with (at_range; refine wpList_range_own _ rfl _ 73 rfl 9 112 lawS Tryz.underlying73 _ (c (4 * t + 3)) _ D rfl HDL.out ?_; intro w0 hrg0 hg0 hs0)
    go_frame
    rw [HW.out] at hrg0 hg0 hs0 ⊢
    obtain ⟨rb, hrb⟩ : ∃ r, W.heap.size = r := ⟨_, rfl⟩
    rw [hrb] at hrg0 hs0 ⊢
    have hb0 : Below W.heap.size W w0 := (Below.refl _ _).grown hg0 (Nat.le_refl _) (fun j hj => by cases hj)
    have HRG0 := Lib.hid hrg0
    have HBr0 := Lib.hid hb0
    have HRB := Lib.hid hrb
    have HN0 := Lib.hid (show w0.ownsRow W.heap.size 9 1 (.slice none 0 0) 0 ((([] : List Wd)).map str) from ⟨by simp, .inl ⟨rfl, rfl⟩⟩)
    have HC0 := Lib.hid (Cut.start (A := S (4 * a + 3)) (X := S (4 * a + 1)) HD2.out)
    obtain ⟨is, his, hz0, hz1, hz2⟩ := info_parts info_str
    have HIS := Lib.hid (show _ ∧ _ ∧ _ ∧ _ from ⟨his, hz0, hz1, hz2⟩)
    have HOKT := Lib.hid (show OkD n m d (4 * t + 3) from ⟨by omega, .inr (.inr ⟨by omega, by rw [show (4 * t + 3) / 4 = t by omega]; exact HDT.out⟩)⟩)
    have hcr : c (4 * t + 3) < rb := by rw [← hrb]; exact (HST.out.ms.set _ HOKT.out).lt
    clear hrg0 hg0 hs0 hb0 hrb n2 hn his hz0 hz1 hz2
    go_loopw [4, 5] (fun uv _ wr => ∃ (left : Lit → Bool) (cnt : Nat) (bh : List Wd) (A : Option Addr) (k : Nat), uv = .slice A bh.length k ∧ Hid (wr.ranges Tryz.prog 9 unitElem (c (4 * t + 3)) rb (size D) D left cnt) ∧ Hid (Cut (S (4 * t + 3)) (S (4 * a + 3)) (S (4 * a + 1)) D left bh) ∧ Hid (wr.ownsRow W.heap.size 9 1 (.slice A bh.length k) bh.length (bh.map str)) ∧ Hid (Below W.heap.size W wr)) (fun _ _ wr => wr.rangeLeft (c (4 * t + 3)) rb)
    case atStart => exact ⟨_, _, [], none, 0, rfl, HRG0, HC0, HN0, HBr0⟩
    case round =>
    clear HRG0 HC0 HN0 HBr0
    obtain ⟨left, cnt, bh, A, k, rfl, HRG, HC, HR, HBr⟩ := hrel
    have HUB := Lib.hid (show ∀ x, S (4 * t + 3) x = true → x ∈ U from (HST.out.ms.set _ HOKT.out).2)
    have hbhl : bh.length ≤ 1000000000000 := Nat.le_trans (sub_len HC.out.nd fun x hx => HUB.out x (HC.out.is x hx).1.1) hU.len
    have hWr : W.heap.size ≤ wr.heap.size := HBr.out.size
    have hbW : base ≤ W.heap.size := HB.out.size |> Nat.le_trans hb
    go_wp2_with (at_next; refine next_set _ rfl _ rfl 9 lawS Tryz.underlying9 (c (4 * t + 3)) rb _ D _ _ rfl HRG.out ?_ ?_)
    · intro hc0 hl0
      have HFIN := Lib.hid (HC.out.fin hl0)
      have hst := HST.out.below HBr.out
      have HQL := Lib.hid (lose_any hU hst (Nat.le_trans hbW hWr) ht htm HDT.out hgl A k bh (ownsRow_base_a HR.out hbW) (fun x hx => HUB.out x (HC.out.is x hx).1.1) hbhl (fun j kk hj hv he => by
        have h1 := ((HST.out.rg.own j hj).lt kk hv).2
        have h2 := (HR.out.lt kk he).1
        omega))
      clear hl0 hst
      go_wp2_with fail
      refine HQL.out.mono ?_
      rintro e w7 ⟨L', add, v', rfl, q1, q2, q3, q4, q5, q6⟩
      have HRES := Lib.hid (show MeetP U w base B n m d c S vl lo a t w7 from .inr ⟨HDT.out, L', add, v', bh, HFIN.out, q1, q2⟩)
      have HB7 := Lib.hid (show Below base w w7 from (HB.out.trans (HBr.out.mono hbW)).trans q5)
      have HK7 := Lib.hid (show KeepI w w7 from (HKI.out.trans (KeepI.below HBr.out)).trans q6)
      clear q1 q2 q3 q4 q5 q6
      go_wp2_with fail
      go_end0
      exact ⟨rfl, HRES.out, HB7.out, HK7.out⟩
    · intro x w1 cnt1 hlx hrg1 hlt1 hg1 hs1 hen
      have hrbW := HRB.out
      have hxU : x ∈ U := HUB.out x (by rw [← HD2.out]; exact HC.out.sub _ hlx)
      have hx4 := hU.nm x hxU
      have HBr1 := Lib.hid (show Below W.heap.size W w1 from HBr.out.grown hg1 hWr (fun j hj => by cases hj; omega))
      have HR1 := Lib.hid (show w1.ownsRow W.heap.size 9 1 (.slice A bh.length k) bh.length (bh.map str) from row_others HR.out hg1 (fun b e => by
        cases e
        exact notT_walk (ranges_iter HRG.out) _))
      have hst1 := HST.out.below HBr1.out
      obtain ⟨p1, p2⟩ := HVA.out w1 (HO.out.below HBr1.out hWz)
      obtain ⟨d1, hd1⟩ : ∃ d, S (4 * a + 3) x = d := ⟨_, rfl⟩
      obtain ⟨d2, hd2⟩ : ∃ d, S (4 * a + 1) x = d := ⟨_, rfl⟩
      have hq1 := has_any (hst1.ms.set _ HA3.out) x hx4
      rw [hd1] at hq1
      have HQ1 := Lib.hid hq1
      have HD1 := Lib.hid hd1
      have HDX := Lib.hid hd2
      have HRG1 := Lib.hid hrg1
      have HLX := Lib.hid hlx
      have HLT := Lib.hid hlt1
      clear hq1 hd1 hd2 hrg1 hlx hlt1 hg1 hs1 hst1 hxU
      go_wp2_with fail
      refine HQ1.out.mono ?_
      rintro e w5 ⟨rfl, g5⟩
      have hb5 : Below w1.heap.size w1 w5 := (Below.refl _ _).grown g5 (Nat.le_refl _) (fun j hj => by cases hj)
      have HB5 := Lib.hid (show Below W.heap.size W w5 from HBr1.out.trans (hb5.mono HBr1.out.size))
      have HR5 := Lib.hid (own_below HR1.out hb5)
      have HRG5 := Lib.hid (HRG1.out.kept g5 (by simp) (by simp))
      clear g5 hb5 p1 p2
      cases d1 with
      | true =>
        have HC5 := Lib.hid (HC.out.skip (.inl HD1.out))
        go_wp2_with fail
        go_roundw
        case rel => exact ⟨_, cnt1, bh, A, k, rfl, HRG5, HC5, HR5, HB5⟩
        case measure => rw [HRG5.out.left_eq, HRG.out.left_eq]; exact HLT.out
      | false =>
        obtain ⟨p1, p2⟩ := HVA.out w5 (HO.out.below HB5.out hWz)
        have hq2 := has_any ((HST.out.below HB5.out).ms.set _ HA1.out) x hx4
        rw [HDX.out] at hq2
        have HQ2 := Lib.hid hq2
        clear hq2
        go_wp2_with fail
        refine HQ2.out.mono ?_
        rintro e w6 ⟨rfl, g6⟩
        have hb6 : Below w5.heap.size w5 w6 := (Below.refl _ _).grown g6 (Nat.le_refl _) (fun j hj => by cases hj)
        have HB6 := Lib.hid (show Below W.heap.size W w6 from HB5.out.trans (hb6.mono HB5.out.size))
        have HR6 := Lib.hid (own_below HR5.out hb6)
        have HRG6 := Lib.hid (HRG5.out.kept g6 (by simp) (by simp))
        have hW6 : W.heap.size ≤ w6.heap.size := HB6.out.size
        clear g6 hb6 p1 p2
        cases d2 with
        | true =>
          have HC5 := Lib.hid (HC.out.skip (.inr HDX.out))
          go_wp2_with fail
          go_roundw
          case rel => exact ⟨_, cnt1, bh, A, k, rfl, HRG6, HC5, HR6, HB6⟩
          case measure => rw [HRG6.out.left_eq, HRG.out.left_eq]; exact HLT.out
        | false =>
          have HC5 := Lib.hid (HC.out.add HD2.out HLX.out HD1.out HDX.out)
          go_wp2_with (at_builtin; refine wpList_growP rfl _ _ 36 rfl W.heap.size 9 1 is _ 16 Tryz.underlying36 HIS.out.1 HIS.out.2.1 HIS.out.2.2.1 HIS.out.2.2.2 rfl Nat.one_pos _ _ _ rfl HR6.out [str x] _ rfl rfl rfl (by intro u hu; rw [List.mem_singleton] at hu; subst hu; rfl) (by omega) (by omega) hW6 ?_; intro v8 w8 h8 g8 f8; obtain ⟨A8, k8, rfl⟩ := row_form h8; have H8 := Lib.hid h8; have HB8 := Lib.hid (HB6.out.grown g8 hW6 (fun j hj => (HR6.out.lt j hj).1)); have HRG8 := Lib.hid (HRG6.out.kept g8 (row_not HR6.out (ranges_map HRG6.out)) (row_not HR6.out (ranges_iter HRG6.out))); clear h8 g8 f8)
          go_roundw
          case rel => exact ⟨_, cnt1, bh ++ [x], A8, k8, by simp, HRG8, HC5, Lib.hid (by have := H8.out; simpa using this), HB8⟩
          case measure => rw [HRG8.out.left_eq, HRG.out.left_eq]; exact HLT.out
end Go.Proofs.YtdgmdpphimenjaaGreatDoor.As13

/-
  Layer 13: what is set along every way: the greatest that the rules allow, told by what is not. Plain.
-/
namespace Go.Proofs.YtdgmdpphimenjaaGreatDoor.As13
open Go.RowKit Api Mem Sh8 Go.Maps Lv12

/-- what some way to the first place of block t does not set. -/
inductive Un (E : List (Nat × Nat)) (par : Wd → Prop) (P X : Nat → Wd → Bool) : Nat → Wd → Prop
  | start {x : Wd} (h : ¬ par x) : Un E par P X 0 x
  | step {a t : Nat} {x : Wd} (he : (a, t) ∈ E) (hu : Un E par P X a x) (hp : P t x = false) (hx : X a x = false) : Un E par P X t x
/-- while blocks are gone through in their order: d: those to which a way has been gone; done: the steps that have been gone. -/
structure Ph1 (E : List (Nat × Nat)) (par : Wd → Prop) (P X : Nat → Wd → Bool) (n : Nat) (d : Nat → Bool) (I : Nat → Wd → Bool) (lo : Nat → List Wd) (done : List (Nat × Nat)) : Prop where
  up : ∀ i x, d i = true → ¬ Un E par P X i x → I i x = true
  lost : ∀ i x, x ∈ lo i → Un E par P X i x ∧ I i x = false ∧ d i = true
  nd : ∀ i, (lo i).Nodup
  closed : ∀ a t, (a, t) ∈ done → d a = true ∧ d t = true ∧ ∀ x, I t x = true → P t x = true ∨ X a x = true ∨ I a x = true ∨ x ∈ lo a
  entry : d 0 = true ∧ ∀ x, I 0 x = true → par x
section
variable {E : List (Nat × Nat)} {par : Wd → Prop} {P X : Nat → Wd → Bool} {n : Nat} {d : Nat → Bool} {I : Nat → Wd → Bool} {lo : Nat → List Wd} {done : List (Nat × Nat)}
theorem Ph1.start (hd : ∀ i, d i = true ↔ i = 0) (hI : ∀ x, I 0 x = true ↔ par x) (hl : ∀ i, lo i = []) : Ph1 E par P X n d I lo [] := by
  refine ⟨fun i x hi hu => ?_, fun i x h => ?_, fun i => ?_, fun a t h => (by cases h), (hd 0).2 rfl, fun x h => (hI x).1 h⟩
  · obtain rfl := (hd i).1 hi
    refine (hI x).2 ?_
    apply Classical.byContradiction
    intro hp
    exact hu (.start hp)
  · rw [hl] at h; cases h
  · rw [hl]; exact List.nodup_nil
theorem Ph1.first (h : Ph1 E par P X n d I lo done) {a t : Nat} (he : (a, t) ∈ E) (ha : d a = true) (ht : d t = false) : Ph1 E par P X n (upd d t true) (upd I t fun x => (I a x || X a x) || P t x) lo (done ++ [(a, t)]) := by
  have hat : a ≠ t := fun e => by rw [e, ht] at ha; cases ha
  refine ⟨fun i x hi hu => ?_, fun i x hx => ?_, h.nd, fun a' t' hm => ?_, ?_, fun x hx => ?_⟩
  · by_cases e : i = t
    · subst e
      rw [upd_at]
      show ((I a x || X a x) || P i x) = true
      cases hp : P i x with
      | true => simp
      | false =>
        cases hx : X a x with
        | true => simp
        | false =>
          have : I a x = true := h.up a x ha fun hua => hu (.step he hua hp hx)
          simp [this]
    · rw [upd_ne _ _ e] at hi ⊢
      exact h.up i x hi hu
  · obtain ⟨q1, q2, q3⟩ := h.lost i x hx
    have e : i ≠ t := fun e => by rw [e, ht] at q3; cases q3
    rw [upd_ne _ _ e, upd_ne _ _ e]
    exact ⟨q1, q2, q3⟩
  · rcases List.mem_append.1 hm with hm | hm
    · obtain ⟨q1, q2, q3⟩ := h.closed a' t' hm
      have e1 : a' ≠ t := fun e => by rw [e, ht] at q1; cases q1
      have e2 : t' ≠ t := fun e => by rw [e, ht] at q2; cases q2
      rw [upd_ne _ _ e1, upd_ne _ _ e2, upd_ne _ _ e1, upd_ne _ _ e2]
      exact ⟨q1, q2, q3⟩
    · rw [List.mem_singleton] at hm
      cases hm
      rw [upd_at, upd_at, upd_ne _ _ hat, upd_ne _ _ hat]
      refine ⟨ha, rfl, fun x hx => ?_⟩
      simp only [Bool.or_eq_true] at hx
      rcases hx with (hx | hx) | hx
      · exact .inr (.inr (.inl hx))
      · exact .inr (.inl hx)
      · exact .inl hx
  · by_cases e : (0 : Nat) = t
    · rw [e, upd_at]
    · rw [upd_ne _ _ e]; exact h.entry.1
  · have e : (0 : Nat) ≠ t := fun e => by have := h.entry.1; rw [e, ht] at this; cases this
    rw [upd_ne _ _ e] at hx
    exact h.entry.2 x hx
/-- what is closed stays so when names are cut from t's set and stand among its lost ones. -/
theorem los_src {I : Nat → Wd → Bool} {lo : Nat → List Wd} {t : Nat} {L' : Wd → Bool} {bh add : List Wd} {Pt : Wd → Bool} (hL : Los Pt (I t) L' bh add) {a : Nat} {x : Wd} (h : I a x = true ∨ x ∈ lo a) : upd I t L' a x = true ∨ x ∈ upd lo t (lo t ++ add) a := by
  by_cases e : a = t
  · subst e
    rw [upd_at, upd_at]
    rcases h with h | h
    · by_cases q : x ∈ add
      · exact .inr (List.mem_append_right _ q)
      · exact .inl ((hL.iff x).2 ⟨h, q⟩)
    · exact .inr (List.mem_append_left _ h)
  · rw [upd_ne _ _ e, upd_ne _ _ e]
    exact h
theorem los_sub {I : Nat → Wd → Bool} {t : Nat} {L' : Wd → Bool} {bh add : List Wd} {Pt : Wd → Bool} (hL : Los Pt (I t) L' bh add) {i : Nat} {x : Wd} (h : upd I t L' i x = true) : I i x = true := by
  by_cases e : i = t
  · subst e
    rw [upd_at] at h
    exact ((hL.iff x).1 h).1
  · rwa [upd_ne _ _ e] at h
theorem Ph1.more (h : Ph1 E par P X n d I lo done) {a t : Nat} (he : (a, t) ∈ E) (ha : d a = true) (ht : d t = true) {L' : Wd → Bool} {bh add : List Wd} (hb : ∀ x, x ∈ bh ↔ I t x = true ∧ I a x = false ∧ X a x = false) (hL : Los (P t) (I t) L' bh add) : Ph1 E par P X n d (upd I t L') (upd lo t (lo t ++ add)) (done ++ [(a, t)]) := by
  have hadd : ∀ x ∈ add, Un E par P X t x := fun x hx => by
    obtain ⟨q1, q2, _⟩ := hL.new x hx
    obtain ⟨_, q4, q5⟩ := (hb x).1 q1
    refine .step he ?_ q2 q5
    apply Classical.byContradiction
    intro hu
    rw [h.up a x ha hu] at q4
    cases q4
  refine ⟨fun i x hi hu => ?_, fun i x hx => ?_, fun i => ?_, fun a' t' hm => ?_, h.entry.1, fun x hx => h.entry.2 x (los_sub hL hx)⟩
  · by_cases e : i = t
    · subst e
      rw [upd_at]
      exact (hL.iff x).2 ⟨h.up i x hi hu, fun q => hu (hadd x q)⟩
    · rw [upd_ne _ _ e]
      exact h.up i x hi hu
  · by_cases e : i = t
    · subst e
      rw [upd_at] at hx ⊢
      have hf : ∀ {y}, (I i y = false ∨ y ∈ add) → L' y = false := fun {y} q => by
        cases e : L' y with
        | false => rfl
        | true =>
          obtain ⟨q1, q2⟩ := (hL.iff y).1 e
          rcases q with q | q
          · rw [q1] at q; cases q
          · exact absurd q q2
      rcases List.mem_append.1 hx with hx | hx
      · obtain ⟨q1, q2, q3⟩ := h.lost i x hx
        exact ⟨q1, hf (.inl q2), q3⟩
      · exact ⟨hadd x hx, hf (.inr hx), ht⟩
    · rw [upd_ne _ _ e] at hx ⊢
      exact h.lost i x hx
  · by_cases e : i = t
    · subst e
      rw [upd_at, List.nodup_append]
      exact ⟨h.nd i, hL.nd, fun y hy z hz e => by
        subst e
        have := (hL.new y hz).2.2
        rw [(h.lost i y hy).2.1] at this
        cases this⟩
    · rw [upd_ne _ _ e]
      exact h.nd i
  · rcases List.mem_append.1 hm with hm | hm
    · obtain ⟨q1, q2, q3⟩ := h.closed a' t' hm
      refine ⟨q1, q2, fun x hx => ?_⟩
      rcases q3 x (los_sub hL hx) with q | q | q
      · exact .inl q
      · exact .inr (.inl q)
      · exact .inr (.inr (los_src hL q))
    · rw [List.mem_singleton] at hm
      cases hm
      refine ⟨ha, ht, fun x hx => ?_⟩
      have hIt : I t x = true := los_sub hL hx
      cases hXa : X a x with
      | true => exact .inr (.inl rfl)
      | false =>
        cases hIa : I a x with
        | true => exact .inr (.inr (los_src hL (.inl hIa)))
        | false =>
          rcases hL.all x ((hb x).2 ⟨hIt, hIa, hXa⟩) with q | q
          · exact .inl q
          · rw [upd_at, q] at hx; cases hx
end
/-- while what was cut is told: as Spr, forward. -/
structure Ph2 (E : List (Nat × Nat)) (par : Wd → Prop) (P X : Nat → Wd → Bool) (n : Nat) (I : Nat → Wd → Bool) (lo : Nat → List Wd) (R : List Nat) (a : Nat) (bh : List Wd) (todo : List Nat) : Prop where
  up : ∀ i x, i < n → ¬ Un E par P X i x → I i x = true
  lost : ∀ i x, i < n → x ∈ lo i → Un E par P X i x ∧ I i x = false
  nd : ∀ i, i < n → (lo i).Nodup
  closed : ∀ a' t x, (a', t) ∈ E → I t x = true → P t x = true ∨ X a' x = true ∨ (I a' x = true ∨ x ∈ lo a') ∨ (a' = a ∧ x ∈ bh ∧ t ∈ todo)
  entry : ∀ x, I 0 x = true → par x
  rest : ∀ i, i < n → lo i ≠ [] → i ∈ R
  lt : ∀ i ∈ R, i < n
  bhU : ∀ x ∈ bh, Un E par P X a x ∧ X a x = false
section
variable {E : List (Nat × Nat)} {par : Wd → Prop} {P X : Nat → Wd → Bool} {n : Nat} {I : Nat → Wd → Bool} {lo : Nat → List Wd} {R : List Nat} {a : Nat} {bh : List Wd} {todo : List Nat}
theorem Ph2.start {d : Nat → Bool} {done : List (Nat × Nat)} (h : Ph1 E par P X n d I lo done) (hd : ∀ i, i < n → d i = true) (hdone : ∀ e ∈ E, e ∈ done) (hR : ∀ i, i < n → lo i ≠ [] → i ∈ R) (hl : ∀ i ∈ R, i < n) : Ph2 E par P X n I lo R 0 [] [] :=
  ⟨fun i x hi hu => h.up i x (hd i hi) hu, fun i x _ hx => ⟨(h.lost i x hx).1, (h.lost i x hx).2.1⟩, fun i _ => h.nd i, fun a' t x he hx => by
    rcases (h.closed a' t (hdone _ he)).2.2 x hx with q | q | q
    · exact .inl q
    · exact .inr (.inl q)
    · exact .inr (.inr (.inl q)), h.entry.2, hR, hl, fun x hx => (by cases hx)⟩
theorem Ph2.pop (h : Ph2 E par P X n I lo (R ++ [a]) 0 [] []) : Ph2 E par P X n I (upd lo a []) R a ((lo a).filter fun x => !X a x) (dsts E a) := by
  have ha : a < n := h.lt a (by simp)
  refine ⟨h.up, fun i x hi hx => ?_, fun i hi => ?_, fun a' t x he hx => ?_, h.entry, fun i hi hne => ?_, fun i hi => h.lt i (by simp [hi]), fun x hx => ?_⟩
  · by_cases e : i = a
    · subst e; rw [upd_at] at hx; cases hx
    · rw [upd_ne _ _ e] at hx; exact h.lost i x hi hx
  · by_cases e : i = a
    · subst e; rw [upd_at]; exact List.nodup_nil
    · rw [upd_ne _ _ e]; exact h.nd i hi
  · rcases h.closed a' t x he hx with q | q | (q | q) | ⟨_, q, _⟩
    · exact .inl q
    · exact .inr (.inl q)
    · exact .inr (.inr (.inl (.inl q)))
    · by_cases e : a' = a
      · subst e
        cases hX : X a' x with
        | true => exact .inr (.inl rfl)
        | false => exact .inr (.inr (.inr ⟨rfl, List.mem_filter.2 ⟨q, by simp [hX]⟩, mem_dsts.2 he⟩))
      · refine .inr (.inr (.inl (.inr ?_)))
        rw [upd_ne _ _ e]
        exact q
    · cases q
  · by_cases e : i = a
    · subst e; rw [upd_at] at hne; exact absurd rfl hne
    · rw [upd_ne _ _ e] at hne
      rcases List.mem_append.1 (h.rest i hi hne) with q | q
      · exact q
      · exact absurd (List.mem_singleton.1 q) e
  · obtain ⟨q1, q2⟩ := List.mem_filter.1 hx
    exact ⟨(h.lost a x ha q1).1, by simpa using q2⟩
theorem Ph2.lose {t : Nat} (h : Ph2 E par P X n I lo R a bh (t :: todo)) (ht : t < n) (he : (a, t) ∈ E) {L' : Wd → Bool} {add : List Wd} (hL : Los (P t) (I t) L' bh add) {R' : List Nat} (hR : ∀ j ∈ R, j ∈ R') (hR2 : ∀ j ∈ R', j < n) (hR3 : lo t = [] → add ≠ [] → t ∈ R') : Ph2 E par P X n (upd I t L') (upd lo t (lo t ++ add)) R' a bh todo := by
  have hadd : ∀ x ∈ add, Un E par P X t x := fun x hx => by
    obtain ⟨q1, q2, _⟩ := hL.new x hx
    exact .step he (h.bhU x q1).1 q2 (h.bhU x q1).2
  refine ⟨fun i x hi hu => ?_, fun i x hi hx => ?_, fun i hi => ?_, fun a' t' x he' hx => ?_, fun x hx => h.entry x (los_sub hL hx), fun i hi hne => ?_, hR2, h.bhU⟩
  · by_cases e : i = t
    · subst e
      rw [upd_at]
      exact (hL.iff x).2 ⟨h.up i x hi hu, fun q => hu (hadd x q)⟩
    · rw [upd_ne _ _ e]
      exact h.up i x hi hu
  · by_cases e : i = t
    · subst e
      rw [upd_at] at hx ⊢
      have hf : ∀ {y}, (I i y = false ∨ y ∈ add) → L' y = false := fun {y} q => by
        cases e : L' y with
        | false => rfl
        | true =>
          obtain ⟨q1, q2⟩ := (hL.iff y).1 e
          rcases q with q | q
          · rw [q1] at q; cases q
          · exact absurd q q2
      rcases List.mem_append.1 hx with hx | hx
      · obtain ⟨q1, q2⟩ := h.lost i x hi hx
        exact ⟨q1, hf (.inl q2)⟩
      · exact ⟨hadd x hx, hf (.inr hx)⟩
    · rw [upd_ne _ _ e] at hx ⊢
      exact h.lost i x hi hx
  · by_cases e : i = t
    · subst e
      rw [upd_at, List.nodup_append]
      exact ⟨h.nd i hi, hL.nd, fun y hy z hz e => by
        subst e
        have := (hL.new y hz).2.2
        rw [(h.lost i y hi hy).2] at this
        cases this⟩
    · rw [upd_ne _ _ e]
      exact h.nd i hi
  · rcases h.closed a' t' x he' (los_sub hL hx) with q | q | q | ⟨rfl, q1, q2⟩
    · exact .inl q
    · exact .inr (.inl q)
    · exact .inr (.inr (.inl (los_src hL q)))
    · rcases List.mem_cons.1 q2 with rfl | q2
      · rcases hL.all x q1 with q | q
        · exact .inl q
        · rw [upd_at, q] at hx; cases hx
      · exact .inr (.inr (.inr ⟨rfl, q1, q2⟩))
  · by_cases e : i = t
    · subst e
      rw [upd_at] at hne
      by_cases e2 : lo i = []
      · rw [e2, List.nil_append] at hne
        exact hR3 e2 hne
      · exact hR i (h.rest i hi e2)
    · rw [upd_ne _ _ e] at hne
      exact hR i (h.rest i hi hne)
theorem Ph2.done (h : Ph2 E par P X n I lo R a bh []) : Ph2 E par P X n I lo R 0 [] [] :=
  ⟨h.up, h.lost, h.nd, fun a' t x he hx => by
    rcases h.closed a' t x he hx with q | q | q | ⟨_, _, q⟩
    · exact .inl q
    · exact .inr (.inl q)
    · exact .inr (.inr (.inl q))
    · exact absurd q List.not_mem_nil, h.entry, h.rest, h.lt, fun x hx => absurd hx List.not_mem_nil⟩
theorem Ph2.fin (h : Ph2 E par P X n I lo [] 0 [] []) (hE : ∀ e ∈ E, e.1 < n ∧ e.2 < n) : ∀ i x, i < n → (I i x = true ↔ ¬ Un E par P X i x) := by
  have hlo : ∀ i, i < n → lo i = [] := fun i hi => by
    apply Classical.byContradiction
    intro hne
    have := h.rest i hi hne
    cases this
  refine fun i x hi => ⟨fun hI hu => ?_, h.up i x hi⟩
  have : I i x = false := by
    clear hI hi
    induction hu with
    | @start x hp =>
      cases e : I 0 x with
      | false => rfl
      | true => exact absurd (h.entry _ e) hp
    | @step a t x he hu hp hx ih =>
      cases e : I t x with
      | false => rfl
      | true =>
        rcases h.closed a t x he e with q | q | (q | q) | ⟨_, q, _⟩
        · rw [hp] at q; cases q
        · rw [hx] at q; cases q
        · rw [ih] at q; cases q
        · rw [hlo a (hE _ he).1] at q; cases q
        · cases q
  rw [this] at hI
  cases hI
end
/-- how much may still be cut. -/
def mv (U : List Wd) (n : Nat) (I : Nat → Wd → Bool) : Nat := mu U n fun i x => !I i x
theorem mv_lose {U : List Wd} {n t : Nat} {Pt : Wd → Bool} {I : Nat → Wd → Bool} {L' : Wd → Bool} {bh add : List Wd} (ht : t < n) (hL : Los Pt (I t) L' bh add) (hbU : ∀ x ∈ bh, x ∈ U) : mv U n (upd I t L') + (if add = [] then 0 else 1) ≤ mv U n I := by
  unfold mv
  have hN : Ned (fun _ => false) ((fun i x => !I i x) t) (fun x => !L' x) add add := by
    refine ⟨fun x => ?_, fun x hx => ⟨hx, rfl, ?_⟩, hL.nd, fun x hx => .inr ?_⟩
    · have := hL.iff x
      cases e1 : L' x <;> cases e2 : I t x <;> simp [e1, e2] at this ⊢
      all_goals exact this
    · have := (hL.new x hx).2.2
      simp [this]
    · cases e : L' x with
      | false => rfl
      | true => exact absurd hx ((hL.iff x).1 e).2
  have h := mu_need (U := U) (n := n) (L := fun i x => !I i x) ht hN (fun x hx => hbU x (hL.new x hx).1)
  have e : upd (fun i x => !I i x) t (fun x => !L' x) = fun i x => !(upd I t L' i x) := by
    funext i x
    unfold upd
    split <;> rfl
  rw [e] at h
  exact h
end Go.Proofs.YtdgmdpphimenjaaGreatDoor.As13

/-
  Layer 13: what was cut is told on, as long as something is.
-/

namespace Go.Proofs.YtdgmdpphimenjaaGreatDoor.As13
open Go.RowKit Api Mem Sh8 Go.Maps Lv12

/-- between two blocks: memory. -/
structure SqW (U : List Wd) (base B n : Nat) (d : Nat → Bool) (c : Nat → Nat) (S : Nat → Wd → Bool) (w w' : World) (I : Nat → Wd → Bool) (vl : Nat → Value) (lo : Nat → List Wd) (R : List Nat) (rv : Value) : Prop where
  st : As U w' base B n n d c (mix S I) vl lo
  row : w'.ownsRow w.heap.size 3 1 rv R.length (iN R)
  bel : Below base w w'
theorem ok3 {n : Nat} {d : Nat → Bool} {i : Nat} (hi : i < n) (hd : d i = true) : OkD n n d (4 * i + 3) := ⟨by omega, .inr (.inr ⟨by omega, by rw [show (4 * i + 3) / 4 = i by omega]; exact hd⟩)⟩
theorem SqW.grU {U : List Wd} {base B n : Nat} {d : Nat → Bool} {c : Nat → Nat} {S : Nat → Wd → Bool} {w w' : World} {I : Nat → Wd → Bool} {vl : Nat → Value} {lo : Nat → List Wd} {R : List Nat} {rv : Value} (h : SqW U base B n d c S w w' I vl lo R rv) {i : Nat} (hi : i < n) (hd : d i = true) {x : Wd} (hx : I i x = true) : x ∈ U := by
  have h1 := (h.st.ms.set (4 * i + 3) (ok3 hi hd)).2 x
  rw [mix_at] at h1
  exact h1 hx
set_option maxRecDepth 100000 in
set_option maxHeartbeats 8000000 in
theorem spread_any {U : List Wd} (hU : UOk U) {w : World} {base B n : Nat} {d : Nat → Bool} {c : Nat → Nat} {S I : Nat → Wd → Bool} {par : Wd → Prop} {E : List (Nat × Nat)} {vl : Nat → Value} {lo : Nat → List Wd} {done : List (Nat × Nat)} {lg hg : Nat} (h : As U w base B n n d c (mix S I) vl lo) (hb : base ≤ w.heap.size) (hd : ∀ i, i < n → d i = true) (hE : ∀ e ∈ E, e.1 < n ∧ e.2 < n) (hEl : E.length ≤ 1000000000000) (hn : n ≤ 1000000000) (hnU : n * U.length ≤ 1000000000000)
    (hP : Ph1 E par (fun i => S (4 * i)) (fun i => S (4 * i + 1)) n d I lo done) (hdone : ∀ e ∈ E, e ∈ done) (hlU : ∀ i x, i < n → x ∈ lo i → x ∈ U)
    (gv : Value) (gl : List (List Int)) (hG : Fl9.Graph lg hg w gv gl) (hgb : hg ≤ base) (hgl : gl.length = n) (hgd : ∀ i, i < n → gl[i]? = some ((dsts E i).map fun x : Nat => (x : Int))) :
    Calls Tryz.prog 38 #[.slice (some ⟨B, 0, none⟩) n n, gv] w fun e w' => e = .returned (.tuple #[]) ∧ (∃ I' vl' lo', As U w' base B n n d c (mix S I') vl' lo' ∧ ∀ i x, i < n → (I' i x = true ↔ ¬ Un E par (fun i => S (4 * i)) (fun i => S (4 * i + 1)) i x)) ∧ Below base w w' := by
  obtain ⟨ii, hii, hi0, hi1, hi2⟩ := info_parts info_int13
  have HII := Lib.hid (show _ ∧ _ ∧ _ ∧ _ from ⟨hii, hi0, hi1, hi2⟩)
  clear hii hi0 hi1 hi2
  obtain ⟨AG, kG, rfl⟩ := Row.form hG
  have HST := Lib.hid h
  have HE := Lib.hid hE
  have HEL := Lib.hid hEl
  have HNU := Lib.hid hnU
  have HDD := Lib.hid hd
  have HG := Lib.hid (fun (W' : World) (hb' : Below base w W') => (show Fl9.Graph lg hg W' (.slice AG n kG) gl from by rw [← hgl]; exact Fl9.Graph.move (Still.of_below (hb'.mono hgb)) hG))
  have HGD := Lib.hid hgd
  have HGL0 := Lib.hid hgl
  have HPH := Lib.hid hP
  have HDN := Lib.hid hdone
  have HGL : Hid (∀ i, i < n → (lo i).length ≤ 1000000000000) := Lib.hid (fun i hi => Nat.le_trans (sub_len (hP.nd i) fun x hx => hlU i x hi hx) hU.len)
  have HN0 := Lib.hid (show w.ownsRow w.heap.size 3 1 (.slice none 0 0) 0 (iN []) from ⟨by simp, .inl ⟨rfl, rfl⟩⟩)
  have HLU := Lib.hid hlU
  rw [hgl]
  clear h hE hEl hnU hd hG hgd hP hdone hlU hgl
  go_enter Tryz.func38, Tryz.ntmps38
  go_wp2_with fail
  go_loopw [4, 12] (fun rv iv wr => ∃ (k : Nat) (R : List Nat) (A1 : Option Addr) (k1 : Nat), k ≤ n ∧ iv = .int .i64 k ∧ rv = .slice A1 R.length k1 ∧ R.length ≤ n ∧ Hid (R = (List.range k).filter fun i => !(lo i).isEmpty) ∧ Hid (wr.ownsRow w.heap.size 3 1 (.slice A1 R.length k1) R.length (iN R)) ∧ Hid (Below w.heap.size w wr)) (fun _ iv _ => n - (intOf iv).toNat)
  case atStart => exact ⟨0, [], none, 0, Nat.zero_le _, rfl, rfl, Nat.zero_le _, Lib.hid rfl, HN0, Lib.hid (Below.refl _ _)⟩
  case round =>
  obtain ⟨k, R, A1, k1, hk, rfl, rfl, hRl, HR, HRW, HBr⟩ := hrel
  by_cases hlt : k < n
  · have hst := HST.out.below HBr.out
    have n6 := (hst.cell hlt (show 3 < 4 by omega)).trans (congrArg some (show FA n d c vl k 3 = vl k from rfl))
    obtain ⟨A6, k6, hv6⟩ := row_form (hst.rg.own k hlt)
    have hq9 := HGL.out k hlt
    obtain ⟨q, hq⟩ : ∃ q, (lo k).length = q := ⟨_, rfl⟩
    rw [hq] at hv6 hq9
    rw [hv6] at n6
    have HQ := Lib.hid hq
    have hRk : R.length ≤ k := by
      rw [HR.out]
      exact Nat.le_trans (List.length_filter_le _ _) (by rw [List.length_range]; exact Nat.le_refl _)
    clear hst hv6 hq
    by_cases h0 : q = 0
    · subst h0
      go_wp2_with fail
      go_roundw
      case rel => exact ⟨k + 1, R, A1, k1, by omega, by go_num, rfl, hRl, Lib.hid (by
        rw [filter_range_next, if_neg (by rw [List.eq_nil_of_length_eq_zero HQ.out]; simp), List.append_nil]
        exact HR.out), HRW, HBr⟩
      case measure => simp [intOf]; omega
    · have hq0 : (0 : Int) < (q : Int) := by omega
      have e0 : decide ((0 : Int) < (q : Int)) = true := decide_eq_true hq0
      have e1 : decide (0 < q) = true := decide_eq_true (by omega)
      have hkw : w.heap.size ≤ wr.heap.size := HBr.out.size
      go_wp2_with (at_builtin; refine wpList_growP rfl _ _ 105 rfl w.heap.size 3 1 ii _ 8 Tryz.underlying105 HII.out.1 HII.out.2.1 HII.out.2.2.1 HII.out.2.2.2 rfl Nat.one_pos _ _ _ rfl HRW.out [i64 (k : Int)] _ rfl rfl rfl (by intro u hu; rw [List.mem_singleton] at hu; subst hu; rfl) (by omega) (by omega) hkw ?_; intro v9 w9 h9 g9 f9; obtain ⟨A9, k9, rfl⟩ := row_form h9; have H9 := Lib.hid h9; have HB9 := Lib.hid (HBr.out.grown g9 hkw (fun j hj => (HRW.out.lt j hj).1)); clear h9 g9 f9)
      go_roundw
      case rel => exact ⟨k + 1, R ++ [k], A9, k9, by omega, by go_num, by simp, by simp; omega, Lib.hid (by
        rw [filter_range_next, if_pos (by cases e : lo k with | nil => rw [e] at HQ; exact absurd HQ.out (by simp; omega) | cons a l => rfl), HR.out]), Lib.hid (by have := H9.out; simpa [iN] using this), HB9⟩
      case measure => simp [intOf]; omega
  · obtain rfl : k = n := by omega
    have HW0 := Lib.hid (show SqW U base B k d c S w wr I vl lo R (.slice A1 R.length k1) from ⟨HST.out.below HBr.out, HRW.out, HBr.out.mono hb⟩)
    have HP0 := Lib.hid (show Ph2 E par (fun i => S (4 * i)) (fun i => S (4 * i + 1)) k I lo R 0 [] [] from Ph2.start HPH.out HDD.out HDN.out (fun i hi hne => by
      rw [HR.out, List.mem_filter]
      exact ⟨List.mem_range.2 hi, by cases e : lo i with | nil => exact absurd e hne | cons a l => rfl⟩) (fun i hi => by rw [HR.out] at hi; exact List.mem_range.1 (List.mem_filter.1 hi).1))
    have hM : 2 * mv U k I + R.length ≤ 2 * (k * U.length) + k := by
      have := mu_top U k (fun i x => !I i x)
      unfold mv
      omega
    clear HR HRW HBr HGL HN0 HPH HDN HST
    go_wp2_with fail
    go_loopg [4] (2 * (k * U.length) + k) (fun g rv wr2 => ∃ (I : Nat → Wd → Bool) (vl : Nat → Value) (lo : Nat → List Wd) (R : List Nat) (A1 : Option Addr) (k1 : Nat), rv = .slice A1 R.length k1 ∧ g ≤ 2 * (k * U.length) + k ∧ 2 * mv U k I + R.length ≤ g ∧ Hid (SqW U base B k d c S w wr2 I vl lo R (.slice A1 R.length k1)) ∧ Hid (Ph2 E par (fun i => S (4 * i)) (fun i => S (4 * i + 1)) k I lo R 0 [] []) ∧ Hid (∀ i x, i < k → x ∈ lo i → x ∈ U))
    case atStart => exact ⟨_, vl, lo, R, A1, k1, rfl, Nat.le_refl _, hM, HW0, HP0, HLU⟩
    case round =>
    clear hM HW0 HP0 hRl HLU
    obtain ⟨I, vl, lo, R, A1, k1, rfl, hgk, hgm, HW, HP, HLU⟩ := hrel
    rcases List.eq_nil_or_concat R with rfl | ⟨R', a, rfl⟩
    · have HF := Lib.hid (HP.out.fin HE.out)
      go_wp2_with fail
      go_end0
      exact ⟨rfl, ⟨I, vl, lo, HW.out.st, HF.out⟩, HW.out.bel⟩
    · rw [List.concat_eq_append] at HW HP hgm
      have hrow := HW.out.row
      rw [List.length_append, show iN (R' ++ [a]) = iN R' ++ [i64 (a : Int)] by simp [iN]] at hrow
      simp only [List.length_singleton] at hrow
      obtain ⟨gs, c9, e9, hgs, hgl9, hcap9, n9, hrow2⟩ := pop_own hrow
      have hla : (R'.concat a).length = R'.length + 1 := by simp
      have hla2 : (R' ++ [a]).length = R'.length + 1 := by simp
      rw [hla2] at hgm
      rw [hla]
      cases e9
      have ha : a < k := HP.out.lt a (by simp)
      have hst := HW.out.st
      have hwz : base ≤ wr.heap.size := Nat.le_trans hb HW.out.bel.size
      have hlol : ∀ i, i < k → (lo i).length ≤ 1000000000000 := fun i hi => Nat.le_trans (sub_len (HP.out.nd i hi) fun x hx => HLU.out i x hi hx) hU.len
      have hgrl := hlol a ha
      have hR9 : R'.length ≤ 2000000000000 + 1000000000 := by have := HNU.out; omega
      have HQ1 := Lib.hid (tell_any hU hst hwz ha ha (fun x hx => HLU.out a x ha hx) hgrl)
      have HRW2 := Lib.hid hrow2
      have HPP := Lib.hid HP.out.pop
      have HLUP := Lib.hid (show ∀ i x, i < k → x ∈ upd lo a [] i → x ∈ U from fun i x hi hx => by
        by_cases e : i = a
        · subst e; rw [upd_at] at hx; cases hx
        · rw [upd_ne _ _ e] at hx; exact HLU.out i x hi hx)
      clear hrow hst hla hla2 hgrl hrow2 hlol
      go_wp2_with fail
      refine HQ1.out.mono ?_
      rintro e w5 ⟨v5, r5, rfl, hr5, ho5, hst5, hap5, hb5, hki5⟩
      rw [mix_ne _ _ (by omega)] at hr5
      obtain ⟨A5, k5, rfl⟩ := row_form ho5
      have HW5 := Lib.hid (show SqW U base B k d c S w w5 I (upd vl a (.slice none 0 0)) (upd lo a []) R' (.slice (some ⟨gs, 0, none⟩) R'.length k1) from ⟨hst5, hki5 _ _ _ _ HRW2.out, HW.out.bel.trans hb5⟩)
      have HP5 := Lib.hid (show Ph2 E par (fun i => S (4 * i)) (fun i => S (4 * i + 1)) k I (upd lo a []) R' a r5 (dsts E a) from by rw [hr5]; exact HPP.out)
      have HO5 := Lib.hid ho5
      have HAP5 := Lib.hid hap5
      have HBU := Lib.hid (show ∀ x ∈ r5, x ∈ U from fun x hx => by rw [hr5] at hx; exact HLU.out a x ha (List.mem_filter.1 hx).1)
      have HBL := Lib.hid (show r5.length ≤ 1000000000000 from by
        have h1 := List.length_filter_le (fun x => !S (4 * a + 1) x) (lo a)
        rw [hr5]
        exact Nat.le_trans h1 (Nat.le_trans (sub_len (HP.out.nd a ha) fun x hx => HLU.out a x ha hx) hU.len))
      obtain ⟨F, hF⟩ : ∃ F, dsts E a = F := ⟨_, rfl⟩
      have hFl : F.length ≤ 1000000000000 := by
        rw [← hF]
        unfold dsts
        rw [List.length_map]
        exact Nat.le_trans (List.length_filter_le _ _) HEL.out
      have hBW : Below base w w5 := HW.out.bel.trans hb5
      obtain ⟨bG, oG, eG, hbG, csG, hclG, hcsG, uG, euG, hin⟩ := row_at (HG.out w5 hBW) (HGD.out a ha)
      subst euG
      have n0 := hcsG 0 _ rfl
      simp only [Nat.mul_one, Nat.add_zero] at n0
      obtain ⟨A6, k6, rfl⟩ := Row.form hin
      rw [List.length_map, hF] at n0
      have HIN := Lib.hid (fun (W' : World) (hb' : Below base w5 W') => (show Fl9.Ints lg hg W' (.slice A6 F.length k6) (F.map fun x : Nat => (x : Int)) from by
        have := Fl9.Ints.move (Still.of_below (hb'.mono hgb)) hin
        rwa [List.length_map, hF] at this))
      have HFF := Lib.hid hF
      rw [hF] at HP5
      have hgm5 : 2 * mv U k I + R'.length + 1 ≤ gk := by omega
      have HP5' := Lib.hid (show Ph2 E par (fun i => S (4 * i)) (fun i => S (4 * i + 1)) k I (upd lo a []) R' a r5 (F.drop 0) from HP5.out)
      have HB5 := Lib.hid (Below.refl base w5)
      have HBW5 := Lib.hid hBW
      clear hr5 ho5 hst5 hap5 hb5 hki5 hF HPP HQ1 HP5 HW HP HRW2 HLU hin
      rw [eG]
      go_wp2_with fail
      go_loopw [4, 50] (fun rv iv wr3 => ∃ (j : Nat) (I : Nat → Wd → Bool) (vl : Nat → Value) (lo : Nat → List Wd) (R : List Nat) (A1 : Option Addr) (k1 : Nat), j ≤ F.length ∧ iv = .int .i64 j ∧ rv = .slice A1 R.length k1 ∧ 2 * mv U k I + R.length + 1 ≤ gk ∧ Hid (SqW U base B k d c S w wr3 I vl lo R (.slice A1 R.length k1)) ∧ Hid (Ph2 E par (fun i => S (4 * i)) (fun i => S (4 * i + 1)) k I lo R a r5 (F.drop j)) ∧ Hid (wr3.ownsRow base 9 1 (.slice A5 r5.length k5) r5.length (r5.map str)) ∧ Hid (∀ j kk, j < k → (vl j).ownBlock = some kk → (Value.slice A5 r5.length k5).ownBlock ≠ some kk) ∧ Hid (∀ i x, i < k → x ∈ lo i → x ∈ U) ∧ Hid (Below base w5 wr3)) (fun _ iv _ => F.length - (intOf iv).toNat)
      case atStart => exact ⟨0, I, _, _, R', _, k1, Nat.zero_le _, rfl, rfl, hgm5, HW5, HP5', HO5, HAP5, HLUP, HB5⟩
      case round =>
      clear n0 hgm5 HW5 HP5' HO5 HAP5 hgm n9 HLUP HB5
      obtain ⟨j, I, vl, lo, R, A1, k1, hj, rfl, rfl, hgm, HW, HP, HO, HAP, HLU, HBB⟩ := hrel
      by_cases hlt2 : j < F.length
      · obtain ⟨i, hi⟩ : ∃ i, F[j]? = some i := ⟨_, List.getElem?_eq_getElem hlt2⟩
        have hie : (a, i) ∈ E := mem_dsts.1 (by rw [HFF.out]; exact List.mem_of_getElem? hi)
        have hik : i < k := (HE.out _ hie).2
        have hst := HW.out.st
        obtain ⟨b6, o6, rfl, hb6, cs6, hcl6, hcs6, rfl⟩ := row_at (HIN.out wr HBB.out) (show (F.map fun x : Nat => (x : Int))[j]? = some (i : Int) by rw [List.getElem?_map, hi]; rfl)
        have n0 := hcs6 0 _ rfl
        simp only [Nat.mul_one, Nat.add_zero] at n0
        have n6 := (hst.cell hik (show 3 < 4 by omega)).trans (congrArg some (show FA k d c vl i 3 = vl i from rfl))
        obtain ⟨A7, k7, hv7⟩ := row_form (hst.rg.own i hik)
        obtain ⟨q, hq⟩ : ∃ q, (lo i).length = q := ⟨_, rfl⟩
        rw [hq] at hv7
        rw [hv7] at n6
        have hgrl : (lo i).length ≤ 1000000000000 := Nat.le_trans (sub_len (HP.out.nd i hik) fun x hx => HLU.out i x hik hx) hU.len
        have hwz : base ≤ wr.heap.size := Nat.le_trans hb HW.out.bel.size
        have HQ2 := Lib.hid (lose_any hU hst hwz hik hik (HDD.out i hik) hgrl A5 k5 r5 HO.out HBU.out HBL.out HAP.out)
        have HDR := Lib.hid (show F.drop j = i :: F.drop (j + 1) from by
          obtain ⟨h1, h2⟩ := List.getElem?_eq_some_iff.1 hi
          rw [List.drop_eq_getElem_cons h1, h2])
        have HQQ := Lib.hid hq
        have HIE := Lib.hid hie
        have hR9 : R.length ≤ 2000000000000 + 1000000000 := by have := HNU.out; omega
        clear hst hv7 hq hi hie hgrl
        go_wp2_with fail
        refine HQ2.out.mono ?_
        rintro e w7 ⟨L', add, v7, rfl, hN, hst7, ho7, hap7, hb7, hki7⟩
        rw [mix_upd] at hst7
        rw [mix_ne _ _ (by omega), mix_at] at hN
        obtain ⟨g9, hg9⟩ : ∃ g9, (decide ((lo i).length = 0) && decide (0 < add.length)) = g9 := ⟨_, rfl⟩
        rw [hg9]
        have HMU := Lib.hid (mv_lose (n := k) hik hN HBU.out)
        have HNN := Lib.hid hN
        have HZZ := Lib.hid hg9
        have HW7 := Lib.hid (show SqW U base B k d c S w w7 (upd I i L') (upd vl i _) (upd lo i (lo i ++ add)) R (.slice A1 R.length k1) from ⟨hst7, hki7 _ _ _ _ HW.out.row, HW.out.bel.trans hb7⟩)
        have HO7 := Lib.hid ho7
        have HAP7 := Lib.hid hap7
        have HB7 := Lib.hid (HBB.out.trans hb7)
        have HLU7 := Lib.hid (show ∀ y x, y < k → x ∈ upd lo i (lo i ++ add) y → x ∈ U from fun y x hy hx => by
          by_cases e : y = i
          · subst e
            rw [upd_at] at hx
            rcases List.mem_append.1 hx with h1 | h1
            · exact HLU.out y x hy h1
            · exact HBU.out x (HNN.out.new x h1).1
          · rw [upd_ne _ _ e] at hx
            exact HLU.out y x hy hx)
        clear hN hst7 ho7 hap7 hb7 hki7 hg9 HQ2
        cases g9 with
        | true =>
          have hz1 : (lo i).length = 0 ∧ 0 < add.length := by have := HZZ.out; simpa using this
          have hwq : w.heap.size ≤ w7.heap.size := HW7.out.bel.size
          go_wp2_with (at_builtin; refine wpList_growP rfl _ _ 105 rfl w.heap.size 3 1 ii _ 8 Tryz.underlying105 HII.out.1 HII.out.2.1 HII.out.2.2.1 HII.out.2.2.2 rfl Nat.one_pos _ _ _ rfl HW7.out.row [i64 (i : Int)] _ rfl rfl rfl (by intro u hu; rw [List.mem_singleton] at hu; subst hu; rfl) (by omega) (by omega) hwq ?_; intro v9 w9 h9 g9 f9; obtain ⟨A9, k9, rfl⟩ := row_form h9; have H9 := Lib.hid h9; have G9 := Lib.hid g9; clear h9 g9 f9)
          go_roundw
          case rel =>
            have hbg : ∀ b, (Value.slice A1 R.length k1).ownBlock = some b → base ≤ b := fun b e => by have := (HW7.out.row.lt b e).1; omega
            refine ⟨j + 1, upd I i L', _, upd lo i (lo i ++ add), R ++ [i], A9, k9, by omega, by go_num, by simp, ?_, Lib.hid ⟨?_, ?_, ?_⟩, Lib.hid ?_, Lib.hid (row_others HO7.out G9.out (fun b e => notT_row HW7.out.row e (by decide))), HAP7, HLU7, Lib.hid (HB7.out.grown G9.out (Nat.le_trans hb HW7.out.bel.size) hbg)⟩
            · have h1 := HMU.out
              rw [if_neg (by intro e; rw [e] at hz1; simp at hz1)] at h1
              simp only [List.length_append, List.length_singleton]
              omega
            · exact HW7.out.st.rowI HW7.out.row G9.out
            · have := H9.out
              simpa [iN] using this
            · exact HW7.out.bel.grown G9.out (Nat.le_trans hb HW7.out.bel.size) hbg
            · have hp := HP.out
              rw [HDR.out] at hp
              exact hp.lose hik HIE.out HNN.out (fun x hx => by simp [hx]) (fun x hx => by
                rcases List.mem_append.1 hx with q | q
                · exact hp.lt x q
                · rw [List.mem_singleton.1 q]; exact hik) (fun _ _ => by simp)
          case measure => simp [intOf]; omega
        | false =>
          go_wp2_with fail
          go_roundw
          case rel =>
            refine ⟨j + 1, upd I i L', _, upd lo i (lo i ++ add), R, A1, k1, by omega, by go_num, rfl, ?_, HW7, Lib.hid ?_, HO7, HAP7, HLU7, HB7⟩
            · have h1 := HMU.out
              split at h1 <;> omega
            · have hp := HP.out
              rw [HDR.out] at hp
              refine hp.lose hik HIE.out HNN.out (fun x hx => hx) hp.lt (fun h1 h2 => ?_)
              exfalso
              have h3 := HZZ.out
              rw [h1] at h3
              have : 0 < add.length := List.length_pos_iff.2 h2
              simp [this] at h3
          case measure => simp [intOf]; omega
      · obtain rfl : j = F.length := by omega
        rw [List.drop_length] at HP
        have HPD := Lib.hid HP.out.done
        go_wp2_with fail
        rw [← eG]
        go_roundg (2 * mv U k I + R.length)
        case measure => omega
        case rel => exact ⟨I, vl, lo, R, A1, k1, rfl, by omega, Nat.le_refl _, HW, HPD, HLU⟩
end Go.Proofs.YtdgmdpphimenjaaGreatDoor.As13

/-
  Layer 13: blocks of which is known what they set; and the steps between them, in order.
-/
namespace Go.Proofs.YtdgmdpphimenjaaGreatDoor.As13
open Go.RowKit Api Mem Sh8 Go.Maps Lv12

/-! ### memory -/
theorem MD.two {U : List Wd} {w w' : World} {Ok Ok' : Nat → Prop} {c : Nat → Nat} {S : Nat → Wd → Bool} (h : MD U w Ok c S) {x y : Nat} (hok : ∀ z, Ok' z → z ≠ x → z ≠ y → Ok z) (hb : Below w.heap.size w w') {p q : Nat} (hp : w.heap.size ≤ p) (hq : w.heap.size ≤ q) (hne : p ≠ q) (hxy : x ≠ y) (sp : SetO U w' p (S x)) (sq : SetO U w' q (S y)) : MD U w' Ok' (upd (upd c x p) y q) S := by
  have hat : ∀ z, Ok' z → (z = y ∧ upd (upd c x p) y q z = q) ∨ (z = x ∧ upd (upd c x p) y q z = p) ∨ (Ok z ∧ upd (upd c x p) y q z = c z ∧ c z < w.heap.size) := fun z hz => by
    by_cases e : z = y
    · subst e; exact .inl ⟨rfl, upd_at _ _ _⟩
    · by_cases e2 : z = x
      · subst e2; exact .inr (.inl ⟨rfl, by rw [upd_ne _ _ e, upd_at]⟩)
      · have := hok z hz e2 e
        exact .inr (.inr ⟨this, by rw [upd_ne _ _ e, upd_ne _ _ e2], (h.set z this).lt⟩)
  refine ⟨fun z hz => ?_, fun a b ha hb' e => ?_⟩
  · rcases hat z hz with ⟨rfl, e⟩ | ⟨rfl, e⟩ | ⟨h1, e, _⟩
    · rw [e]; exact sq
    · rw [e]; exact sp
    · rw [e]; exact (h.set z h1).below hb (h.set z h1).lt
  · rcases hat a ha with ⟨rfl, e1⟩ | ⟨rfl, e1⟩ | ⟨h1, e1, l1⟩ <;> rcases hat b hb' with ⟨rfl, e2⟩ | ⟨rfl, e2⟩ | ⟨h2, e2, l2⟩ <;> first | rfl | (rw [e1, e2] at e; first | omega | exact h.inj _ _ h1 h2 e)
/-- four cells laid one by one. -/
def laid4 (w : World) (B k : Nat) (u0 u1 u2 u3 : Value) : World := (((w.setCell ⟨B, k * 4, none⟩ u0).setCell ⟨B, k * 4 + 1, none⟩ u1).setCell ⟨B, k * 4 + 2, none⟩ u2).setCell ⟨B, k * 4 + 3, none⟩ u3
theorem laid4_grown (w : World) (B k : Nat) (u0 u1 u2 u3 : Value) : w.grownBy (laid4 w B k u0 u1 u2 u3) (some B) :=
  grown_trans (grown_trans (grown_trans (grown_cell w _ _) (grown_cell _ ⟨B, k * 4 + 1, none⟩ _)) (grown_cell _ ⟨B, k * 4 + 2, none⟩ _)) (grown_cell _ ⟨B, k * 4 + 3, none⟩ _)
theorem laid4_out {w : World} {B n k : Nat} {F : Nat → Nat → Value} (h : OutD w B n F) (u0 u1 u2 u3 : Value) {F' : Nat → Nat → Value} (he : ∀ i j, i < n → j < 4 → i ≠ k → F i j = F' i j) (e0 : u0 = F' k 0) (e1 : u1 = F' k 1) (e2 : u2 = F' k 2) (e3 : u3 = F' k 3) : OutD (laid4 w B k u0 u1 u2 u3) B n F' := by
  have h0 := h.store (i := k) (j := 0) (by omega) u0
  have h1 := h0.store (i := k) (j := 1) (by omega) u1
  have h2 := h1.store (i := k) (j := 2) (by omega) u2
  have h3 := h2.store (i := k) (j := 3) (by omega) u3
  refine h3.same fun i j hi hj => ?_
  unfold upd2
  by_cases e : i = k
  · subst e
    simp only [true_and]
    rcases (by omega : j = 0 ∨ j = 1 ∨ j = 2 ∨ j = 3) with r | r | r | r <;> subst r <;> simp [*]
  · simp only [e, false_and, if_false]
    exact he i j hi hj e
/-- one more block, with two new sets. -/
theorem As.next {U : List Wd} {w w' : World} {base B n k : Nat} {c : Nat → Nat} {S : Nat → Wd → Bool} (h : As U w base B n k (fun _ => false) c S (fun _ => .slice none 0 0) (fun _ => [])) (hk : k < n) (hbase : base ≤ w.heap.size) (hb : Below w.heap.size w w') {p q : Nat} (hp : w.heap.size ≤ p) (hq : w.heap.size ≤ q) (hne : p ≠ q) (sp : SetO U w' p (S (4 * k))) (sq : SetO U w' q (S (4 * k + 1))) :
    As U (laid4 w' B k (.map (some p)) (.map (some q)) (.map none) (.slice none 0 0)) base B n (k + 1) (fun _ => false) (upd (upd c (4 * k) p) (4 * k + 1) q) S (fun _ => .slice none 0 0) (fun _ => []) := by
  have h1 := h.below hb
  have g4 := laid4_grown w' B k (.map (some p)) (.map (some q)) (.map none) (.slice none 0 0)
  have hok : ∀ z, OkD n (k + 1) (fun _ => false) z → z ≠ 4 * k → z ≠ 4 * k + 1 → OkD n k (fun _ => false) z := fun z ⟨q1, q2⟩ ha hb => ⟨q1, by
    rcases q2 with q2 | q2 | ⟨_, q3⟩
    · exact .inl (by omega)
    · exact .inr (.inl (by omega))
    · cases q3⟩
  have hm := (h.ms.two (Ok' := OkD n (k + 1) (fun _ => false)) hok hb hp hq hne (by omega) sp sq)
  refine ⟨h.ob, laid4_out h1.out _ _ _ _ (fun i j _ _ hne' => ?_) ?_ ?_ ?_ ?_, hm.row g4 fun b e => by cases e; exact h1.out.isRow, fun x hx => ?_, h1.rg.other g4 (h1.out.notT (by decide))⟩
  · unfold FA
    by_cases e : i < k
    · rw [if_pos e, if_pos e, if_pos (show i < k + 1 by omega), if_pos (show i < k + 1 by omega), upd_ne _ _ (by omega), upd_ne _ _ (by omega), upd_ne _ _ (by omega), upd_ne _ _ (by omega)]
      simp
    · rw [if_neg e, if_neg e, if_neg (show ¬ i < k + 1 by omega), if_neg (show ¬ i < k + 1 by omega)]
      simp
  · unfold FA
    simp only [if_true, Nat.lt_succ_self, upd_ne _ _ (show 4 * k ≠ 4 * k + 1 by omega), upd_at]
  · unfold FA
    simp [upd_at]
  · unfold FA
    simp
  · unfold FA
    simp
  · unfold upd
    split
    · omega
    · split
      · omega
      · exact h.mb x (hok x hx (by assumption) (by assumption))
theorem As.more {U : List Wd} {w : World} {base B n m : Nat} {d : Nat → Bool} {c : Nat → Nat} {S S' : Nat → Wd → Bool} {vl : Nat → Value} {lo : Nat → List Wd} (h : As U w base B n m d c S vl lo) (e : ∀ x, OkD n m d x → S x = S' x) : As U w base B n m d c S' vl lo :=
  ⟨h.ob, h.out, ⟨fun x hx => by rw [← e x hx]; exact h.ms.set x hx, h.ms.inj⟩, h.mb, h.rg⟩
/-! ### what blocks tell by themselves -/
def SB (bl : List Api.Block) (x : Nat) (y : Wd) : Bool := match bl[x / 4]? with
  | some b => if x % 4 = 0 then decide (y ∈ b.phis.map (·.dst)) else if x % 4 = 1 then decide (y ∈ setsL b.code) else false
  | none => false
theorem SB_0 {bl : List Api.Block} {k : Nat} {b : Api.Block} (h : bl[k]? = some b) : SB bl (4 * k) = fun y => decide (y ∈ b.phis.map (·.dst)) := funext fun y => by
  unfold SB
  rw [show 4 * k / 4 = k by omega, h]
  simp only
  rw [if_pos (by omega)]
theorem SB_1 {bl : List Api.Block} {k : Nat} {b : Api.Block} (h : bl[k]? = some b) : SB bl (4 * k + 1) = fun y => decide (y ∈ setsL b.code) := funext fun y => by
  unfold SB
  rw [show (4 * k + 1) / 4 = k by omega, h]
  simp only
  rw [if_neg (by omega), if_pos (by omega)]
/-- which lead to which, as flow.Of has it. -/
theorem dsts_at {bl : List Api.Block} {k i : Nat} (hi : i < k) : dsts (edgesTo bl k) i = (edgesOf bl i).map (·.2) := by
  have hone : ∀ j, (edgesOf bl j).filter (fun e => decide (e.1 = i)) = if j = i then edgesOf bl i else [] := fun j => by
    by_cases e : j = i
    · subst e
      rw [if_pos rfl, List.filter_eq_self]
      intro x hx
      unfold edgesOf at hx
      split at hx
      · obtain ⟨y, _, rfl⟩ := List.mem_map.1 hx
        simp
      · cases hx
    · rw [if_neg e, List.filter_eq_nil_iff]
      intro x hx
      unfold edgesOf at hx
      split at hx
      · obtain ⟨y, _, rfl⟩ := List.mem_map.1 hx
        simpa using e
      · cases hx
  have hgo : ∀ k, (edgesTo bl k).filter (fun e => decide (e.1 = i)) = if i < k then edgesOf bl i else [] := fun k => by
    induction k with
    | zero => simp [edgesTo]
    | succ k ih =>
      rw [edgesTo_next, List.filter_append, ih, hone]
      by_cases e1 : i < k
      · rw [if_pos e1, if_neg (by omega), if_pos (by omega), List.append_nil]
      · rw [if_neg e1]
        by_cases e2 : k = i
        · rw [if_pos e2, if_pos (by omega), List.nil_append]
        · rw [if_neg e2, if_neg (by omega), List.nil_append]
  unfold dsts
  rw [hgo, if_pos hi]
theorem ofV_dsts {bl : List Api.Block} {i : Nat} (hi : i < bl.length) : (Fl9.ofV bl)[i]? = some ((dsts (EG bl) i).map fun x : Nat => (x : Int)) := by
  have hx : bl[i]? = some bl[i] := List.getElem?_eq_getElem hi
  rw [Fl9.ofV_at hx]
  unfold EG
  rw [dsts_at hi]
  unfold edgesOf
  rw [hx]
  simp only [List.map_map, Fl9.toL]
  rfl
/-! ### the steps, in order -/
/-- so far: dn: the steps that were gone for sure. -/
def M1 (U : List Wd) (base B n : Nat) (S : Nat → Wd → Bool) (E : List (Nat × Nat)) (par : Wd → Prop) (dn : Nat × Nat → Prop) (w : World) : Prop :=
  ∃ d c I vl lo done, As U w base B n n d c (mix S I) vl lo ∧ Ph1 E par (fun i => S (4 * i)) (fun i => S (4 * i + 1)) n d I lo done ∧ (∀ i x, x ∈ lo i → x ∈ U) ∧ ∀ e, dn e → e ∈ done
theorem meet_step {U : List Wd} {w w' : World} {base B n : Nat} {S : Nat → Wd → Bool} {E : List (Nat × Nat)} {par : Wd → Prop} {dn : Nat × Nat → Prop} {d : Nat → Bool} {c : Nat → Nat} {I : Nat → Wd → Bool} {vl : Nat → Value} {lo : Nat → List Wd} {done : List (Nat × Nat)} {a t : Nat}
    (h : As U w base B n n d c (mix S I) vl lo) (hP : Ph1 E par (fun i => S (4 * i)) (fun i => S (4 * i + 1)) n d I lo done) (hU : ∀ i x, x ∈ lo i → x ∈ U) (hdn : ∀ e, dn e → e ∈ done) (he : (a, t) ∈ E) (ha : d a = true) (ht : t < n) (hm : MeetP U w base B n n d c (mix S I) vl lo a t w') {dn' : Nat × Nat → Prop} (hdn' : ∀ e, dn' e → dn e ∨ e = (a, t)) : M1 U base B n S E par dn' w' := by
  have hfin : ∀ e, dn' e → e ∈ done ++ [(a, t)] := fun e q => by
    rcases hdn' e q with q | q
    · exact List.mem_append_left _ (hdn e q)
    · rw [q]; simp
  rcases hm with ⟨q1, g, q2⟩ | ⟨q1, L', add, v', bh, q2, q3, q4⟩
  · rw [mix_upd, mix_at, mix_ne _ _ (by omega : (4 * a + 1) % 4 ≠ 3), mix_ne _ _ (by omega : (4 * t) % 4 ≠ 3)] at q2
    exact ⟨_, _, _, _, _, _, q2, hP.first he ha q1, hU, hfin⟩
  · rw [mix_upd] at q4
    rw [mix_at, mix_ne _ _ (by omega)] at q3
    simp only [mix_at, mix_ne S I (show (4 * a + 1) % 4 ≠ 3 by omega)] at q2
    refine ⟨_, _, _, _, _, _, q4, hP.more he ha q1 q2 q3, fun i x hx => ?_, hfin⟩
    by_cases e : i = t
    · subst e
      rw [upd_at] at hx
      rcases List.mem_append.1 hx with h1 | h1
      · exact hU i x h1
      · have h2 := ((q2 x).1 (q3.new x h1).1).1
        have h3 := (h.ms.set (4 * i + 3) (ok3 ht q1)).2 x
        rw [mix_at] at h3
        exact h3 h2
    · rw [upd_ne _ _ e] at hx
      exact hU i x hx
theorem M1.weak {U : List Wd} {w : World} {base B n : Nat} {S : Nat → Wd → Bool} {E : List (Nat × Nat)} {par : Wd → Prop} {dn dn' : Nat × Nat → Prop} (h : M1 U base B n S E par dn w) (hd : ∀ e, dn' e → dn e) : M1 U base B n S E par dn' w := by
  obtain ⟨d, c, I, vl, lo, done, h1, h2, h3, h4⟩ := h
  exact ⟨d, c, I, vl, lo, done, h1, h2, h3, fun e q => h4 e (hd e q)⟩
theorem M1.below {U : List Wd} {w w' : World} {base B n : Nat} {S : Nat → Wd → Bool} {E : List (Nat × Nat)} {par : Wd → Prop} {dn : Nat × Nat → Prop} (h : M1 U base B n S E par dn w) (hb : Below w.heap.size w w') : M1 U base B n S E par dn w' := by
  obtain ⟨d, c, I, vl, lo, done, h1, h2, h3, h4⟩ := h
  exact ⟨d, c, I, vl, lo, done, h1.below hb, h2, h3, h4⟩
/-- the order goes to a block before it is gone through. -/
theorem come_at {E : List (Nat × Nat)} {par : Wd → Prop} {P X : Nat → Wd → Bool} {n : Nat} {d : Nat → Bool} {I : Nat → Wd → Bool} {lo : Nat → List Wd} {done : List (Nat × Nat)} (h : Ph1 E par P X n d I lo done) {gl : List (List Int)} {o : List Int} {m : List Bool} (hO : Fl9.OrderOk gl o m) (hgl : gl.length = n) (hgd : ∀ i, i < n → gl[i]? = some ((dsts E i).map fun x : Nat => (x : Int))) {k a : Nat} (hk : o[k]? = some (a : Int)) (hdn : ∀ e ∈ E, (e.1 : Int) ∈ o.take k → e ∈ done) : d a = true := by
  rcases hO.back k _ hk with ⟨_, e⟩ | ⟨j, y, hj, hy, hm⟩
  · obtain rfl : a = 0 := by omega
    exact h.entry.1
  · obtain ⟨q, rfl, hq⟩ := hO.point y (List.mem_of_getElem? hy)
    rw [Int.toNat_natCast, List.getD_eq_getElem?_getD, hgd q (by omega)] at hm
    simp only [Option.getD_some] at hm
    obtain ⟨t, ht, e⟩ := List.mem_map.1 hm
    obtain rfl : t = a := by omega
    refine (h.closed q t (hdn _ (mem_dsts.1 ht) ?_)).2.1
    exact List.mem_take_iff_getElem.2 (by
      obtain ⟨h1, h2⟩ := List.getElem?_eq_some_iff.1 hy
      exact ⟨j, by omega, h2⟩)
/-- all blocks stand in the order. -/
theorem all_in {bl : List Api.Block} (hR : RightP bl) : ∀ i, i < bl.length → (i : Int) ∈ Fl9.orderV (Fl9.ofV bl) := by
  obtain ⟨h0, hn, hE, hr⟩ := hR
  have hpos : 0 < bl.length := List.length_pos_iff.2 h0
  have hl := Fl9.ofV_len bl
  rw [Fl9.order_start]
  have hO := Fl9.start_ok (g := Fl9.ofV bl) (by omega)
  intro i hi
  have hb : bl[i]? = some bl[i] := List.getElem?_eq_getElem hi
  refine reach_in hn (fun k => (k : Int) ∈ (Fl9.startV (Fl9.ofV bl)).2.reverse) (List.mem_of_getElem? (hO.first (by omega))) (fun a t b x hba hca hx hxt => ?_) (hr _ (List.mem_of_getElem? hb)) i (by unfold names; rw [List.getElem?_map, hb]; rfl)
  have ht : t < bl.length := by have := (List.getElem?_eq_some_iff.1 hxt).1; unfold names at this; rwa [List.length_map] at this
  refine (hO.mem t).2 (hO.lead a t ((hO.mem a).1 hca) ?_ (by omega))
  rw [List.getD_eq_getElem?_getD, Fl9.ofV_at hba]
  exact List.mem_map.2 ⟨x, hx, by rw [plc_nodup hn hxt]; rfl⟩
end Go.Proofs.YtdgmdpphimenjaaGreatDoor.As13

/-
  Layer 13: what is set at the first places of blocks.
-/
namespace Go.Proofs.YtdgmdpphimenjaaGreatDoor.As13
open Go.RowKit Api Mem Sh8 Go.Maps Lv12

theorem info_blk13 : (Tryz.prog.info? 75).map (fun i => (i.zero, i.size, i.bytes)) = some (some (.agg #[.map none, .map none, .map none, .slice none 0 0]), 4, 48) := by kernel_rfl
theorem ok0 {n x : Nat} (h : OkD n 0 (fun _ => false) x) : False := by
  obtain ⟨_, q | q | ⟨_, q⟩⟩ := h
  · omega
  · omega
  · cases q
theorem SB_mix (bl : List Api.Block) : mix (SB bl) (fun _ _ => false) = SB bl := funext fun x => funext fun y => by
  unfold mix
  by_cases e : x % 4 = 3
  · rw [if_pos e]
    unfold SB
    split
    · rw [if_neg (by omega), if_neg (by omega)]
    · rfl
  · rw [if_neg e]
/-- the parameters' names. -/
def parN (f : Api.Func) (x : Wd) : Prop := x ∈ f.params.map (·.name)
/-- what some way to block i does not set. -/
abbrev UnF (f : Api.Func) : Nat → Wd → Prop := Un (EG f.blocks) (parN f) (fun i => SB f.blocks (4 * i)) (fun i => SB f.blocks (4 * i + 1))
/-- what comes of it. -/
def FolA (U : List Wd) (f : Api.Func) (w : World) (e : Ending) (w' : World) : Prop := ∃ B d c vl lo I, e = .returned (.slice (some ⟨B, 0, none⟩) f.blocks.length f.blocks.length) ∧ (∀ i, i < f.blocks.length → d i = true) ∧ As U w' w.heap.size B f.blocks.length f.blocks.length d c (mix (SB f.blocks) I) vl lo ∧ (∀ i x, i < f.blocks.length → (I i x = true ↔ ¬ UnF f i x)) ∧ Below w.heap.size w w'
/-- one block begun. -/
def Fs (U : List Wd) (bl : List Api.Block) (base B k : Nat) (w : World) : Prop := ∃ c, As U w base B bl.length k (fun _ => false) c (SB bl) (fun _ => .slice none 0 0) (fun _ => [])
set_option maxRecDepth 100000 in
set_option maxHeartbeats 8000000 in
theorem follow13_any {U : List Wd} (hU : UOk U) (lo hi : Nat) (w : World) (cs : List Value) (f : Api.Func) (hf : FuncC lo hi w cs f) (hh : hi ≤ w.heap.size) (ho : FOk U f.blocks) (hP : ∀ v ∈ f.params, v.name ∈ U) (hn60 : f.blocks.length ≤ 60) (hT : Fl9.fewT f.blocks) (hR : RightP f.blocks) :
    Calls Tryz.prog 19 #[.agg cs.toArray] w (FolA U f w) := by
  have hf0 := hf
  obtain ⟨u1, u2, u3, rfl, kp, kv, kb⟩ := hf
  obtain ⟨nm, rs, ps, vs, bl⟩ := f
  simp only at kp kv kb ho hP hn60 hT hR ⊢
  obtain ⟨A1, k1, rfl⟩ := kp.form
  obtain ⟨A2, k2, rfl⟩ := kv.form
  obtain ⟨A3, k3, rfl⟩ := kb.form
  obtain ⟨W0, hW0⟩ : ∃ W0, w.alloc (.cells #[str nm, str rs, .slice A1 ps.length k1, .slice A2 vs.length k2, .slice A3 bl.length k3] 25) = W0 := ⟨_, rfl⟩
  obtain ⟨hO0, hbx, hz0⟩ := box8 (c := [str nm, str rs, .slice A1 ps.length k1, .slice A2 vs.length k2, .slice A3 bl.length k3]) hW0
  have HO0 := Lib.hid hO0
  have HBX := Lib.hid hbx
  have HW0 := Lib.hid hW0
  have KB := Lib.hid kb
  have HOK := Lib.hid ho
  have HR := Lib.hid hR
  have HT := Lib.hid hT
  have hlt0 := hO0.lt
  have hn0 : 0 < bl.length := ho.pos
  have HFU := Lib.hid (fun (W' : World) (hb : Below w.heap.size w W') => (show FuncC lo hi W' [str nm, str rs, .slice A1 ps.length k1, .slice A2 vs.length k2, .slice A3 bl.length k3] ⟨nm, rs, ps, vs, bl⟩ from FuncC.move (Still.of_below (hb.mono hh)) hf0))
  have HHU := Lib.hid (fun (W' : World) (hb : Below w.heap.size w W') => (show hi ≤ W'.heap.size from Nat.le_trans hh hb.size))
  have HQ1 := Lib.hid (Fl9.of_any9 lo hi W0 _ _ (HFU.out W0 hbx) (HHU.out W0 hbx) hn60 ho.nm ho.dl ho.dn hT)
  have HQP := Lib.hid (fun (W' : World) (hb : Below w.heap.size w W') => parameters_any hU lo hi W' _ _ (HFU.out W' hb) (HHU.out W' hb) hP)
  obtain ⟨ib, hib, iz0, iz1, iz2⟩ := info_parts info_blk13
  obtain ⟨M, hM⟩ : ∃ M, M = madeCells (Value.agg #[.map none, .map none, .map none, .slice none 0 0]).cells (((bl.length : Nat) : Int).toNat * ib.size) := ⟨_, rfl⟩
  have hmk : ∀ W : World, (Instr.makeSlice 70 (.int .i64 (bl.length : Int)) (.int .i64 (bl.length : Int))).run Tryz.prog W = .ok (.slice (some ⟨W.heap.size, 0, none⟩) bl.length bl.length) (W.alloc (.cells M 75)) := fun W => by
    have h := run_make (P := Tryz.prog) W 70 75 ib _ Tryz.underlying70 hib iz0 .i64 .i64 (bl.length : Int) (bl.length : Int) (by omega) (by omega) (by rw [iz2]; omega) (by omega)
    rw [← hM] at h
    simpa using h
  have HMM := Lib.hid (show M.size = bl.length * 4 ∧ ∀ i j, i < bl.length → j < 4 → M.toList[i * 4 + j]? = some (FA 0 (fun _ => false) (fun _ => 0) (fun _ => .slice none 0 0) i j) from by
    have hM2 : M = madeCells #[.map none, .map none, .map none, .slice none 0 0] (((bl.length : Nat) : Int).toNat * ib.size) := hM
    rw [hM2, iz1]
    refine ⟨by rw [size_madeCells]; simp, fun i j hi hj => ?_⟩
    have h7 : (i * 4 + j) % 4 = j := by omega
    have hl : i * 4 + j < bl.length * 4 := by omega
    rcases (by omega : j = 0 ∨ j = 1 ∨ j = 2 ∨ j = 3) with r | r | r | r <;> subst r <;> (rw [Array.getElem?_toList]; simp [madeCells, hl, h7, hi, FA, Array.getElem?_range, Nat.mul_mod_left]))
  clear hf0 kp kv kb hO0 hbx hW0 ho hP hT hR hM iz0 iz1 iz2
  go_enter Tryz.func19, Tryz.ntmps19
  go_wp2_with fail
  rw [HW0.out]
  refine HQ1.out.mono ?_
  rintro e w1 ⟨v1, rfl, hg1, hb1⟩
  have hgr : Fl9.Graph W0.heap.size w1.heap.size w1 v1 (Fl9.ofV bl) := hg1.graph (Nat.le_refl _) (by rw [Fl9.ofV_len]; omega) (fun l hl => by
    obtain ⟨b, hb, rfl⟩ := List.mem_map.1 hl
    have h8 := HT.out b hb
    unfold Fl9.toL
    rw [List.length_map]
    omega)
  have hB1 : Below w.heap.size w w1 := HBX.out.trans (hb1.mono HBX.out.size)
  have HB1 := Lib.hid hB1
  obtain ⟨AG, kG, rfl⟩ := Row.form hgr
  have hl1 := Fl9.ofV_len bl
  have HO1 := Lib.hid (HO0.out.below hb1 hlt0)
  have HG := Lib.hid (fun (W' : World) (hb' : Below w1.heap.size w1 W') => (show Fl9.Graph W0.heap.size w1.heap.size W' (.slice AG bl.length kG) (Fl9.ofV bl) from by rw [← hl1]; exact Fl9.Graph.move (Still.of_below hb') hgr))
  rw [hl1]
  have hww : w.heap.size < w1.heap.size := HO1.out.lt
  have hAs0 : As U (w1.alloc (.cells M 75)) w1.heap.size w1.heap.size bl.length 0 (fun _ => false) (fun _ => 0) (SB bl) (fun _ => .slice none 0 0) (fun _ => []) :=
    ⟨Nat.le_refl _, ⟨M.toList, by have := Mem.Own.made w1 75 M.toList; simpa using this, by rw [Array.length_toList]; exact HMM.out.1, HMM.out.2⟩, ⟨fun x hx => (ok0 hx).elim, fun x y hx => (ok0 hx).elim⟩, fun x hx => (ok0 hx).elim, Fam.nil _ _ _ _ _⟩
  have HS0 := Lib.hid (show Fs U bl w1.heap.size w1.heap.size 0 (w1.alloc (.cells M 75)) from ⟨_, hAs0⟩)
  have HB2 := Lib.hid (show Below w1.heap.size w1 (w1.alloc (.cells M 75)) from (Below.refl _ _).alloc (Nat.le_refl _) _)
  obtain ⟨w2, hw2⟩ : ∃ w2, w1.alloc (.cells M 75) = w2 := ⟨_, rfl⟩
  have HW2 := Lib.hid hw2
  rw [hw2] at HS0 HB2
  clear hg1 hb1 hgr hB1 hl1 hAs0 HQ1 hw2 HBX HW0 HMM
  go_wp2_with fail
  rw [HW2.out]
  go_loopw [17] (fun iv wr => ∃ k : Nat, k ≤ bl.length ∧ iv = .int .i64 k ∧ Hid (Fs U bl w1.heap.size w1.heap.size k wr) ∧ Hid (Below w1.heap.size w1 wr)) (fun iv _ => bl.length - (intOf iv).toNat)
  case atStart => exact ⟨0, Nat.zero_le _, rfl, HS0, HB2⟩
  case round =>
  clear HS0 HB2 HW2
  obtain ⟨k, hk, rfl, HS, HBr⟩ := hrel
  have hsz : w1.heap.size ≤ wr.heap.size := HBr.out.size
  by_cases hlt : k < bl.length
  · obtain ⟨b, hx⟩ : ∃ y, bl[k]? = some y := ⟨_, List.getElem?_eq_getElem hlt⟩
    obtain ⟨b3, o3, rfl, hb3, cs3, hcl3, hcs3, hbc⟩ := row_at KB.out hx
    have hbW : Below hi w wr := (HB1.out.mono hh).trans (HBr.out.mono (HHU.out _ HB1.out))
    have hO4 := HO1.out.below HBr.out hww
    have f4 := hO4.cell 4
    simp only [List.getElem?_cons_zero, List.getElem?_cons_succ] at f4
    have hbc3 := BlockC.move (Still.of_below hbW) hbc
    have hc3 := cells_later hcs3 hbW hb3
    have hbm := List.mem_of_getElem? hx
    have hhr : hi ≤ wr.heap.size := Nat.le_trans (HHU.out _ HB1.out) hsz
    have HQ4 := Lib.hid (show Calls Tryz.prog 35 #[.agg cs3.toArray] wr (BegQ U b wr) from begun_any hU lo hi wr cs3 b hbc3 hhr (fun p hp => (HOK.out.ph b hbm p hp).1) (fun i hi => (HOK.out.uI b hbm i hi).1))
    have HQ5 := Lib.hid (show Calls Tryz.prog 35 #[.agg cs3.toArray] wr.drew (BegQ U b wr.drew) from begun_any hU lo hi wr.drew cs3 b (BlockC.move (Still.of_below (Below.refl hi wr).drew) hbc3) hhr (fun p hp => (HOK.out.ph b hbm p hp).1) (fun i hi => (HOK.out.uI b hbm i hi).1))
    have HX := Lib.hid hx
    obtain ⟨y1, y2, cs4, rfl, _, _, y3, rfl, _⟩ := hbc3
    obtain ⟨m0, m1, m2, m3, m4, m5, m6, m7, m8⟩ := at9 hc3
    clear hc3 hcs3 hbc hbW hO4 hbm hx
    go_wp2_with fail
    refine HQ4.out.mono ?_
    rintro e w5 ⟨p, q, rfl, hne, hp, hq, sp, sq, hb5⟩
    have hHS := HS.out
    obtain ⟨c5, hst5⟩ := hHS
    have hst6 := hst5.below hb5
    have y0 := hst6.cell hlt (show 0 < 4 by omega)
    have y1 := hst6.cell hlt (show 1 < 4 by omega)
    have y2 := hst6.cell hlt (show 2 < 4 by omega)
    have y3 := hst6.cell hlt (show 3 < 4 by omega)
    have z0 := hst6.out.thaw (k * 4)
    have z1 := hst6.out.thaw (k * 4 + 1)
    have z2 := hst6.out.thaw (k * 4 + 2)
    have z3 := hst6.out.thaw (k * 4 + 3)
    simp only [Nat.add_zero] at y0
    have HN := Lib.hid (show Fs U bl w1.heap.size w1.heap.size (k + 1) (laid4 w5 w1.heap.size k (.map (some p)) (.map (some q)) (.map none) (.slice none 0 0)) from ⟨_, hst5.next hlt hsz hb5 hp hq hne (by rw [SB_0 HX.out]; exact sp) (by rw [SB_1 HX.out]; exact sq)⟩)
    have HB5 := Lib.hid (show Below w1.heap.size w1 (laid4 w5 w1.heap.size k (.map (some p)) (.map (some q)) (.map none) (.slice none 0 0)) from (HBr.out.trans (hb5.mono hsz)).grown (laid4_grown _ _ _ _ _ _ _) (Nat.le_trans hsz hb5.size) (fun j e => by cases e; exact Nat.le_refl _))
    clear hst5 hst6 sp sq hb5 HS HQ4 HQ5 m0 m1 m2 m3 m4 m5 m6 m7 m8 f4
    go_wp2_with fail
    go_roundw
    case rel => exact ⟨k + 1, by omega, by go_num, HN, HB5⟩
    case measure => simp [intOf]; omega
  · obtain rfl : k = bl.length := by omega
    have hpos : (0 : Int) < (bl.length : Int) := by omega
    have epos : decide ((0 : Int) < (bl.length : Int)) = true := decide_eq_true hpos
    have epos2 : decide (0 < bl.length) = true := decide_eq_true hn0
    have hB3 : Below w.heap.size w wr := HB1.out.trans (HBr.out.mono (by omega))
    have HB3 := Lib.hid hB3
    have HO3 := Lib.hid (HO1.out.below HBr.out hww)
    have f0 := HO3.out.cell 0
    have f1 := HO3.out.cell 1
    have f2 := HO3.out.cell 2
    have f3 := HO3.out.cell 3
    have f4 := HO3.out.cell 4
    simp only [List.getElem?_cons_zero, List.getElem?_cons_succ] at f0 f1 f2 f3 f4
    have HQ6 := Lib.hid (HQP.out wr hB3)
    clear hB3
    go_wp2_with fail
    refine HQ6.out.mono ?_
    rintro e w6 ⟨g, rfl, hg, hsg, hb6⟩
    obtain ⟨c5, hst5⟩ := HS.out
    have hst6 := hst5.below hb6
    have y2 := hst6.cell (i := 0) hn0 (show 2 < 4 by omega)
    have z2 := hst6.out.thaw 2
    simp only [Nat.zero_mul, Nat.zero_add] at y2
    have hst7 := hst5.newset (i := 0) hb6 hg hsz hsg
    rw [show (0 : Nat) * 4 + 2 = 2 from rfl] at hst7
    rw [← SB_mix bl, mix_upd] at hst7
    have hb67 : Below w1.heap.size w1 (w6.setCell ⟨w1.heap.size, 2, none⟩ (.map (some g))) := (HBr.out.trans (hb6.mono hsz)).grown (grown_cell w6 ⟨w1.heap.size, 2, none⟩ _) (Nat.le_trans hsz hb6.size) (fun j e => by cases e; exact Nat.le_refl _)
    obtain ⟨w7, hw7⟩ : ∃ w7, w6.setCell ⟨w1.heap.size, 2, none⟩ (.map (some g)) = w7 := ⟨_, rfl⟩
    rw [hw7] at hst7 hb67
    have hM7 : M1 U w1.heap.size w1.heap.size bl.length (SB bl) (EG bl) (parN ⟨nm, rs, ps, vs, bl⟩) (fun _ => False) w7 := ⟨_, _, _, _, _, [], hst7, Ph1.start (fun i => by unfold upd; split <;> simp_all) (fun x => by rw [upd_at]; simp [parN]) (fun _ => rfl), fun i x hx => (by cases hx), fun e h => h.elim⟩
    have HM7 := Lib.hid hM7
    have HB7 := Lib.hid hb67
    have HW7 := Lib.hid hw7
    have HQ7 := Lib.hid (Fl9.order_any _ _ w7 _ _ (HG.out w7 hb67) hb67.size (by rw [Fl9.ofV_len]; omega))
    have hOk := Fl9.start_ok (g := Fl9.ofV bl) (by rw [Fl9.ofV_len]; omega)
    rw [← Fl9.order_start] at hOk
    have hall := all_in HR.out
    have hol : (Fl9.orderV (Fl9.ofV bl)).length ≤ 60 := Nat.le_trans (Fl9.order_len _) (by rw [Fl9.ofV_len]; exact hn60)
    obtain ⟨O, hO⟩ : ∃ O, Fl9.orderV (Fl9.ofV bl) = O := ⟨_, rfl⟩
    unfold Fl9.OrderP at HQ7
    rw [hO] at hOk hall hol HQ7
    have HOK9 := Lib.hid hOk
    have HALL := Lib.hid hall
    clear hst5 hst6 hst7 hb67 hw7 hM7 hOk hall hO hsg hb6 HS HQ6 f0 f1 f2 f3 f4
    go_wp2_with fail
    rw [HW7.out]
    refine HQ7.out.mono ?_
    rintro e w8 ⟨vo, rfl, how, hb8⟩
    obtain ⟨A9, k9, rfl⟩ := row_form (show w8.ownsRow w7.heap.size 3 1 vo O.length (Fl9.iC O) from how)
    have hs17 : w1.heap.size ≤ w7.heap.size := HB7.out.size
    have HM8 := Lib.hid (show M1 U w1.heap.size w1.heap.size bl.length (SB bl) (EG bl) (parN ⟨nm, rs, ps, vs, bl⟩) (fun e => e ∈ EG bl ∧ (e.1 : Int) ∈ O.take 0) w8 from (HM7.out.below hb8).weak fun e h => by have := h.2; simp at this)
    have HB8 := Lib.hid (HB7.out.trans (hb8.mono hs17))
    have HR8 := Lib.hid how
    clear how hb8 HM7 HB7 HQ7 HW7
    go_wp2_with fail
    go_loopw [41] (fun iv wr => ∃ k : Nat, k ≤ O.length ∧ iv = .int .i64 k ∧ Hid (M1 U w1.heap.size w1.heap.size bl.length (SB bl) (EG bl) (parN ⟨nm, rs, ps, vs, bl⟩) (fun e => e ∈ EG bl ∧ (e.1 : Int) ∈ O.take k) wr) ∧ Hid (wr.ownsRow w7.heap.size 3 1 (.slice A9 O.length k9) O.length (Fl9.iC O)) ∧ Hid (Below w1.heap.size w1 wr)) (fun iv _ => O.length - (intOf iv).toNat)
    case atStart => exact ⟨0, Nat.zero_le _, rfl, HM8, HR8, HB8⟩
    case round =>
    clear HM8 HR8 HB8
    obtain ⟨k, hk2, rfl, HM, HRO, HBr2⟩ := hrel
    by_cases hlt2 : k < O.length
    · obtain ⟨a, ha⟩ : ∃ a, O[k]? = some a := ⟨_, List.getElem?_eq_getElem hlt2⟩
      obtain ⟨a, rfl, hal⟩ := HOK9.out.point a (List.mem_of_getElem? ha)
      rw [Fl9.ofV_len] at hal
      obtain ⟨b9, rfl, hb9, hb99⟩ := own_addr HRO.out hlt2
      have n0 := own_at HRO.out (show (Fl9.iC O)[k]? = some (i64 (a : Int)) by unfold Fl9.iC; rw [List.getElem?_map, ha]; rfl)
      obtain ⟨F, hF⟩ : ∃ F, dsts (EG bl) a = F := ⟨_, rfl⟩
      have hFl : F.length ≤ 1000000000000 := by
        rw [← hF]
        unfold dsts
        rw [List.length_map]
        exact Nat.le_trans (List.length_filter_le _ _) HOK.out.el
      obtain ⟨bG, oG, eG, hbG, csG, hclG, hcsG, uG, euG, hin⟩ := row_at (HG.out wr HBr2.out) (ofV_dsts hal)
      subst euG
      have n1 := hcsG 0 _ rfl
      simp only [Nat.mul_one, Nat.add_zero] at n1
      obtain ⟨A6, k6, rfl⟩ := Row.form hin
      rw [List.length_map, hF] at n1
      have HIN := Lib.hid (fun (W' : World) (hb' : Below w1.heap.size wr W') => (show Fl9.Ints W0.heap.size w1.heap.size W' (.slice A6 F.length k6) (F.map fun x : Nat => (x : Int)) from by
        have := Fl9.Ints.move (Still.of_below hb') hin
        rwa [List.length_map, hF] at this))
      have HFF := Lib.hid hF
      have HAT := Lib.hid ha
      have HM0 := Lib.hid (show M1 U w1.heap.size w1.heap.size bl.length (SB bl) (EG bl) (parN ⟨nm, rs, ps, vs, bl⟩) (fun e => (e ∈ EG bl ∧ (e.1 : Int) ∈ O.take k) ∨ (e.1 = a ∧ e.2 ∈ F.take 0)) wr from HM.out.weak fun e h => by
        rcases h with h | h
        · exact h
        · have := h.2; simp at this)
      have HBB := Lib.hid (Below.refl w1.heap.size wr)
      clear hin hF ha hcsG HM
      rw [eG]
      go_wp2_with fail
      go_loopw [50] (fun iv wr2 => ∃ j : Nat, j ≤ F.length ∧ iv = .int .i64 j ∧ Hid (M1 U w1.heap.size w1.heap.size bl.length (SB bl) (EG bl) (parN ⟨nm, rs, ps, vs, bl⟩) (fun e => (e ∈ EG bl ∧ (e.1 : Int) ∈ O.take k) ∨ (e.1 = a ∧ e.2 ∈ F.take j)) wr2) ∧ Hid (wr2.ownsRow w7.heap.size 3 1 (.slice (some ⟨b9, 0, none⟩) O.length k9) O.length (Fl9.iC O)) ∧ Hid (Below w1.heap.size wr wr2)) (fun iv _ => F.length - (intOf iv).toNat)
      case atStart => exact ⟨0, Nat.zero_le _, rfl, HM0, HRO, HBB⟩
      case round =>
      clear HM0 HBB n0 n1
      obtain ⟨j, hj, rfl, HM, HRO2, HBB⟩ := hrel
      by_cases hlt3 : j < F.length
      · obtain ⟨t, ht⟩ : ∃ t, F[j]? = some t := ⟨_, List.getElem?_eq_getElem hlt3⟩
        have hie : (a, t) ∈ EG bl := mem_dsts.1 (by rw [HFF.out]; exact List.mem_of_getElem? ht)
        have htn : t < bl.length := (edges_lt hn0 _ hie).2
        obtain ⟨b6, o6, rfl, hb6, cs6, hcl6, hcs6, rfl⟩ := row_at (HIN.out wr HBB.out) (show (F.map fun x : Nat => (x : Int))[j]? = some (t : Int) by rw [List.getElem?_map, ht]; rfl)
        have n0 := hcs6 0 _ rfl
        simp only [Nat.mul_one, Nat.add_zero] at n0
        obtain ⟨d, c, I, vl, lo, done, h1, h2, h3, h4⟩ := HM.out
        have hda : d a = true := come_at h2 HOK9.out (Fl9.ofV_len bl) (fun i hi => ofV_dsts hi) HAT.out (fun e he h => h4 e (.inl ⟨he, h⟩))
        have x0 := (h1.cell hal (show 0 < 4 by omega)).trans (congrArg some (show FA bl.length d c vl a 0 = .map (some (c (4 * a))) from by simp [FA, hal]))
        have x1 := (h1.cell hal (show 1 < 4 by omega)).trans (congrArg some (show FA bl.length d c vl a 1 = .map (some (c (4 * a + 1))) from by simp [FA, hal]))
        have x2 := (h1.cell hal (show 2 < 4 by omega)).trans (congrArg some (show FA bl.length d c vl a 2 = .map (some (c (4 * a + 3))) from by simp [FA, hda]))
        have x3 := (h1.cell hal (show 3 < 4 by omega)).trans (congrArg some (show FA bl.length d c vl a 3 = vl a from by simp [FA]))
        simp only [Nat.add_zero] at x0
        have hwz : w1.heap.size ≤ wr.heap.size := Nat.le_trans HBr2.out.size HBB.out.size
        have hlt9 : (lo t).length ≤ 1000000000000 := Nat.le_trans (sub_len (h2.nd t) fun x hx => h3 t x hx) hU.len
        have HQ8 := Lib.hid (meet_any hU h1.drew hwz hal hal hda htn htn hlt9)
        have H1 := Lib.hid h1
        have H2 := Lib.hid h2
        have H3 := Lib.hid h3
        have H4 := Lib.hid h4
        have HDA := Lib.hid hda
        have HTT := Lib.hid ht
        have HIE := Lib.hid hie
        clear h1 h2 h3 h4 hda hlt9 ht hie HM hcs6
        go_wp2_with fail
        go_still_tail 7, (by kernel_rfl)
        change wpList _ _ _ _ _ wr.drew
        go_wp2_with fail
        refine HQ8.out.mono ?_
        rintro e w9 ⟨rfl, hm9, hb9', hk9⟩
        have HM9 := Lib.hid (meet_step H1.out.drew H2.out H3.out H4.out HIE.out HDA.out htn hm9 (dn' := fun e => (e ∈ EG bl ∧ (e.1 : Int) ∈ O.take k) ∨ (e.1 = a ∧ e.2 ∈ F.take (j + 1))) (fun e h => by
          rcases h with h | ⟨q1, q2⟩
          · exact .inl (.inl h)
          · rw [← Fl9.take_next9 HTT.out] at q2
            rcases List.mem_append.1 q2 with q2 | q2
            · exact .inl (.inr ⟨q1, q2⟩)
            · rw [List.mem_singleton] at q2
              exact .inr (Prod.ext q1 q2)))
        have HRO3 := Lib.hid (hk9 _ _ _ _ (own_below HRO2.out (Below.refl _ wr).drew))
        have HBB3 := Lib.hid (HBB.out.trans (below_of_drew hb9'))
        clear hm9 hb9' hk9 HQ8 H1 H2 H3 H4 HRO2 HBB x0 x1 x2 x3 n0
        go_wp2_with fail
        go_roundw
        case rel => exact ⟨j + 1, by omega, by go_num, HM9, HRO3, HBB3⟩
        case measure => simp [intOf]; omega
      · obtain rfl : j = F.length := by omega
        have HMN := Lib.hid (show M1 U w1.heap.size w1.heap.size bl.length (SB bl) (EG bl) (parN ⟨nm, rs, ps, vs, bl⟩) (fun e => e ∈ EG bl ∧ (e.1 : Int) ∈ O.take (k + 1)) wr from HM.out.weak fun e h => by
          obtain ⟨q1, q2⟩ := h
          rw [← Fl9.take_next9 HAT.out] at q2
          rcases List.mem_append.1 q2 with q2 | q2
          · exact .inl ⟨q1, q2⟩
          · rw [List.mem_singleton] at q2
            have q3 : e.1 = a := by omega
            refine .inr ⟨q3, ?_⟩
            rw [List.take_length, ← HFF.out]
            exact mem_dsts.2 (by rw [← q3]; exact q1))
        have HBN := Lib.hid (HBr2.out.trans HBB.out)
        clear HM HBB HAT
        go_wp2_with fail
        go_roundw
        case rel => exact ⟨k + 1, by omega, by go_num, HMN, HRO2, HBN⟩
        case measure => simp [intOf]; omega
    · obtain rfl : k = O.length := by omega
      obtain ⟨d, c, I, vl, lo, done, h1, h2, h3, h4⟩ := HM.out
      have hdone : ∀ e ∈ EG bl, e ∈ done := fun e he => h4 e ⟨he, by
        rw [List.take_length]
        exact HALL.out e.1 (edges_lt hn0 e he).1⟩
      have hdd : ∀ i, i < bl.length → d i = true := fun i hi => by
        obtain ⟨k, hk⟩ := List.mem_iff_getElem?.1 (HALL.out i hi)
        exact come_at h2 HOK9.out (Fl9.ofV_len bl) (fun i hi => ofV_dsts hi) hk (fun e he _ => hdone e he)
      have hwz : w1.heap.size ≤ wr.heap.size := HBr2.out.size
      have HQ9 := Lib.hid (spread_any hU h1 hwz hdd (edges_lt hn0) HOK.out.el (by omega) HOK.out.nU h2 hdone (fun i x _ hx => h3 i x hx) _ _ (HG.out wr HBr2.out) (Nat.le_refl _) (Fl9.ofV_len bl) (fun i hi => ofV_dsts hi))
      have HDD := Lib.hid hdd
      have hw0 : w.heap.size ≤ w1.heap.size := Nat.le_of_lt hww
      clear h1 h2 h3 h4 hdone hdd HM
      go_wp2_with fail
      refine HQ9.out.mono ?_
      rintro e w9 ⟨rfl, ⟨I', vl', lo', hst9, hI9⟩, hb9⟩
      have HST9 := Lib.hid hst9
      have HI9 := Lib.hid hI9
      have HB9 := Lib.hid ((HB1.out.trans (HBr2.out.mono hw0)).trans (hb9.mono hw0))
      clear hst9 hI9 hb9 HQ9
      go_wp2_with fail
      go_ret
      exact ⟨w1.heap.size, d, c, vl', lo', I', rfl, HDD.out, HST9.out.lower hw0, HI9.out, HB9.out⟩
end Go.Proofs.YtdgmdpphimenjaaGreatDoor.As13

/-
  Layer 13: what is set at blocks' first places, as rows of names.
-/
namespace Go.Proofs.YtdgmdpphimenjaaGreatDoor.As13
open Go.RowKit Api Mem Sh8 Go.Maps Lv12 Go.Sort

/-- a row of names of one's own, sorted in its place. -/
theorem sort13_any {w : World} {base : Nat} {A : Option Addr} {c : Nat} {r : List Wd} (h : w.ownsRow base 9 1 (.slice A r.length c) r.length (r.map str)) (hl : r.length ≤ 1000000000000) :
    Calls Tryz.prog 21 #[.slice A r.length c] w fun e w' => e = .returned (.tuple #[]) ∧ w'.ownsRow base 9 1 (.slice A r.length c) r.length ((r.mergeSort (fun x y => decide (x ≤ y))).map str) ∧ w.grownBy w' (Value.slice A r.length c).ownBlock := by
  rcases h.2 with ⟨e, h0⟩ | ⟨g, cap, cur, e, hb, hg, h1, h2, h3, h4⟩
  · have e2 := e
    simp only [Value.slice.injEq] at e2
    obtain ⟨rfl, _, rfl⟩ := e2
    rw [h0]
    obtain rfl := List.eq_nil_of_length_eq_zero h0
    refine (AnyM.slices_Sort_string_none Tryz.sortL none 0 w).mono ?_
    rintro e w' ⟨rfl, rfl⟩
    exact ⟨rfl, ⟨by simp, .inl ⟨rfl, rfl⟩⟩, grown_refl w' _⟩
  · simp only [Value.slice.injEq, true_and] at e
    obtain ⟨rfl, rfl⟩ := e
    refine (AnyM.slices_Sort_string Tryz.sortL g 0 c r w (holds_of_block hg (by simpa using h4)) (Array.getElem?_eq_some_iff.1 hg).1 (by omega)).mono ?_
    rintro e w' ⟨rfl, n, os, rfl⟩
    exact ⟨rfl, ownsRow_sorted (by simp) hb hg h1 h2 h3, grownBy_sorted _⟩
/-- append(row, one thing), as a step of a region that draws its order. -/
theorem step_growP {P : Program} {w : World} {ops : Array Oper} {o : Oper} {a : Go.Act} {K : Go.Act → World → Prop} {Q : Exit → Go.Act → World → Prop} {E : Prop} (hgd : o.guard = none) (s x : Operand) (t : TypeId)
    (ho : o.op = .call { callee := .builtin .append, args := #[s, x], argTypes := #[t, t] })
    (base : Nat) (e : TypeId) (size : Nat) (i : TypeInfo) (z : Value) (bytes : Nat) (ht : P.underlying t = some (.slice e)) (hi : P.info? e = some i) (hz : i.zero = some z)
    (hsize : i.size = size) (hby : i.bytes = bytes) (hzs : z.cells.size = size) (hsz : 0 < size)
    (v : Value) (n : Nat) (xs : List Value) (hs : a.eval s = v) (hown : w.ownsRow base e size v n xs)
    (news : List Value) (k : Nat) (hkw : k = w.heap.size) (hx : a.eval x = .slice (some ⟨k, 0, none⟩) 1 1) (hl : news.length = size) (h1 : ∀ u ∈ news, u.oneCell' = true)
    (h63 : n + 1 ≤ 9223372036854775807) (hbytes : (n + 1) * bytes ≤ 140737488355328) (hbase : base ≤ w.heap.size)
    (h : ∀ v' w', w'.ownsRow base e size v' (n + 1) (xs ++ news) → w.grownBy w' v.ownBlock → (v'.ownBlock = v.ownBlock ∨ ∀ k, v'.ownBlock = some k → w.heap.size ≤ k) → K (a.put o.dst v') w') :
    if Region.wanted o (yielded ops a.tmps) = true then Oper.wp P o a (w.alloc (.cells news.toArray e)) K Q else E := by
  have hw : Region.wanted o (yielded ops a.tmps) = true := by simp [Region.wanted, hgd]
  rw [if_pos hw]
  subst hkw
  have ho2 : (w.alloc (.cells news.toArray e)).ownsRow base e size v n xs := World.ownsRow.alloc hown _
  have hnews : ∀ j u, news[j]? = some u → (w.alloc (.cells news.toArray e)).cell? ((⟨w.heap.size, 0, none⟩ : Addr).add j) = some u := by
    intro j u hu
    have e1 : (⟨w.heap.size, 0, none⟩ : Addr).add j = ⟨w.heap.size, j, none⟩ := by unfold Addr.add; split <;> simp_all
    rw [e1, (Mem.Own.made w e news).cell]
    exact hu
  obtain ⟨v', w', hr, h2, h3, _⟩ := run_append_own (P := P) (w.alloc (.cells news.toArray e)) base t o.type e i z size bytes ht hi hz hsize hby hzs hsz v n xs ho2 ⟨w.heap.size, 0, none⟩ 1 1 news (by omega) hnews h1 (by unfold maxLen; omega) hbytes (by simp; omega)
  obtain ⟨v2, w2, hr2, h4⟩ := Hold.append_block (P := P) (w.alloc (.cells news.toArray e)) base t o.type e i z ht hi hz v n xs (by rw [hsize]; exact ho2) ⟨w.heap.size, 0, none⟩ 1 1 news (by omega) hnews h1 (by omega) h63 (by rw [hby]; exact hbytes)
  have ev : v2 = v' := by
    rw [hr] at hr2
    injection hr2 with e1 _
    exact e1.symm
  subst ev
  have hb : w.grownBy w' v.ownBlock := ⟨h3.os, h3.tape, h3.output, Nat.le_trans (by simp) h3.size, fun k hk hne => (h3.block k (by simp; omega) hne).trans (Below.heap_alloc w _ k hk)⟩
  unfold Oper.wp execOp
  simp only [ho, resolve, invoke, builtin, Sem.run_bind, Sem.run_pure, Result.andThen_ok, List.map_toArray, List.map_cons, List.map_nil, hs, hx, hr]
  refine h v2 w' h2 hb ?_
  rcases h4 with h4 | h4
  · exact .inl h4
  · right
    intro k hk
    rw [h4] at hk
    injection hk with hk
    subst hk
    simp
/-- rows of names, in memory of one's own. -/
structure RF (w : World) (base Bv n : Nat) (vi : Nat → Value) (li : Nat → List Wd) : Prop where
  ob : base ≤ Bv
  out : Mem.Own w Bv 36 ((List.range n).map vi)
  rg : Fam 9 str w base n vi li
section
variable {w w' : World} {base Bv n : Nat} {vi : Nat → Value} {li : Nat → List Wd}
theorem RF.cell (h : RF w base Bv n vi li) {i : Nat} (hi : i < n) : w.cell? ⟨Bv, i, none⟩ = some (vi i) := (h.out.cell i).trans (by simp [hi])
theorem RF.below (h : RF w base Bv n vi li) (hb : Below w.heap.size w w') : RF w' base Bv n vi li := ⟨h.ob, h.out.below hb h.out.lt, h.rg.below hb⟩
theorem RF.walk (h : RF w base Bv n vi li) {b : Nat} (hg : w.grownBy w' (some b)) (hr : ∃ o : Obj, w.heap[b]? = some o ∧ o.isCells = false) : RF w' base Bv n vi li :=
  ⟨h.ob, own_kept h.out hg (fun e => notT_walk hr _ _ _ (by subst e; exact h.out)), h.rg.other hg (notT_walk hr _)⟩
theorem RF.ne (h : RF w base Bv n vi li) {i : Nat} (hi : i < n) : (vi i).ownBlock ≠ some Bv := fun e => notT_row (h.rg.own i hi) e (e := 36) (by decide) _ _ h.out
theorem RF.after (h : RF w base Bv n vi li) {i : Nat} (hi : i < n) (hg : w.grownBy w' (vi i).ownBlock) : w'.cell? ⟨Bv, i, none⟩ = some (vi i) ∧ w'.frozen? ⟨Bv, i, none⟩ = false := by
  have o1 : Mem.Own w' Bv 36 ((List.range n).map vi) := (hg.block Bv h.out.lt (fun e => h.ne hi e.symm)).trans h.out
  exact ⟨(o1.cell i).trans (by simp [hi]), o1.thaw i⟩
theorem RF.grow (h : RF w base Bv n vi li) {i : Nat} (hi : i < n) (hg : w.grownBy w' (vi i).ownBlock) {l' : List Wd} (hv : w'.ownsRow base 9 1 (vi i) l'.length (l'.map str)) : RF w' base Bv n vi (upd li i l') := by
  refine ⟨h.ob, ?_, ?_⟩
  · exact (hg.block Bv h.out.lt (fun e => h.ne hi e.symm)).trans h.out
  · have := h.rg.put hi hg hv (.inl rfl)
    rwa [upd_self] at this
theorem RF.push (h : RF w base Bv n vi li) {i : Nat} (hi : i < n) (hg : w.grownBy w' (vi i).ownBlock) {v' : Value} {l' : List Wd} (hv : w'.ownsRow base 9 1 v' l'.length (l'.map str)) (hf : v'.ownBlock = (vi i).ownBlock ∨ ∀ k, v'.ownBlock = some k → w.heap.size ≤ k) : RF (w'.setCell ⟨Bv, i, none⟩ v') base Bv n (upd vi i v') (upd li i l') := by
  have o1 : Mem.Own w' Bv 36 ((List.range n).map vi) := (hg.block Bv h.out.lt (fun e => h.ne hi e.symm)).trans h.out
  have gc := grown_cell w' ⟨Bv, i, none⟩ v'
  refine ⟨h.ob, ?_, (h.rg.put hi hg hv hf).other gc (notT_own o1 (by decide))⟩
  have h2 := o1.store i v'
  have e : ((List.range n).map vi).set i v' = (List.range n).map (upd vi i v') := by
    apply List.ext_getElem?
    intro j
    rw [List.getElem?_set]
    by_cases e : i = j
    · subst e
      rw [if_pos rfl]
      simp [hi, upd_at]
    · rw [if_neg e]
      simp only [List.getElem?_map]
      by_cases hj : j < n
      · simp [hj, upd_ne _ _ (Ne.symm e)]
      · simp [hj]
  rwa [e] at h2
end
theorem RF.rows {w : World} {base Bv n : Nat} {vi : Nat → Value} {li : Nat → List Wd} (h : RF w base Bv n vi li) {Q : Nat → Wd → Prop} (hq : ∀ i, i < n → Rise (li i) ∧ ∀ x, x ∈ li i ↔ Q i x) : RowsQ Q w base Bv n n :=
  ⟨_, h.out, by simp, h.ob, fun i hi => ⟨vi i, li i, by simp [hi], (hq i hi).1, (hq i hi).2, h.rg.own i hi⟩⟩
theorem RF.made (w : World) (n : Nat) : RF (w.alloc (.cells (List.replicate n (.slice none 0 0)).toArray 36)) w.heap.size w.heap.size n (fun _ => .slice none 0 0) (fun _ => []) :=
  ⟨Nat.le_refl _, by
    have h := Mem.Own.made w 36 (List.replicate n (.slice none 0 0))
    have e : (List.range n).map (fun _ => Value.slice none 0 0) = List.replicate n (.slice none 0 0) := by rw [List.map_const', List.length_range]
    rw [e]
    exact h, Fam.nil _ _ _ _ _⟩
/-- what is set at the first place of block i. -/
abbrev SetF (f : Api.Func) (i : Nat) (x : Wd) : Prop := ¬ UnF f i x
def Ins13P (f : Api.Func) (w : World) (e : Ending) (w' : World) : Prop := ∃ Bv, e = .returned (.slice (some ⟨Bv, 0, none⟩) f.blocks.length f.blocks.length) ∧ RowsQ (SetF f) w' w.heap.size Bv f.blocks.length f.blocks.length ∧ Below w.heap.size w w'
set_option maxRecDepth 100000 in
set_option maxHeartbeats 8000000 in
theorem ins13_any {U : List Wd} (hU : UOk U) (lo hi : Nat) (w : World) (cs : List Value) (f : Api.Func) (hf : FuncC lo hi w cs f) (hh : hi ≤ w.heap.size) (ho : FOk U f.blocks) (hP : ∀ v ∈ f.params, v.name ∈ U) (hn60 : f.blocks.length ≤ 60) (hT : Fl9.fewT f.blocks) (hR : RightP f.blocks) :
    Calls Tryz.prog 7 #[.agg cs.toArray] w (Ins13P f w) := by
  have hf0 := hf
  obtain ⟨u1, u2, u3, rfl, kp, kv, kb⟩ := hf
  obtain ⟨W0, hW0⟩ : ∃ W0, w.alloc (.cells #[str f.name, str f.result, u1, u2, u3] 25) = W0 := ⟨_, rfl⟩
  obtain ⟨hO0, hbx, hz0⟩ := box8 (c := [str f.name, str f.result, u1, u2, u3]) hW0
  have HW0 := Lib.hid hW0
  have HBX := Lib.hid hbx
  have HQ1 := Lib.hid (follow13_any hU lo hi W0 _ _ (FuncC.move (Still.of_below (hbx.mono hh)) hf0) (Nat.le_trans hh hbx.size) ho hP hn60 hT hR)
  obtain ⟨n, hn⟩ : ∃ n, f.blocks.length = n := ⟨_, rfl⟩
  unfold FolA at HQ1
  unfold Ins13P
  rw [hn] at hn60 HQ1 ⊢
  obtain ⟨is, his, iz0, iz1, iz2⟩ := info_parts info_str
  have HIS := Lib.hid (show _ ∧ _ ∧ _ ∧ _ from ⟨his, iz0, iz1, iz2⟩)
  have hmk := fun W => run_row (P := Tryz.prog) (t := 34) (e := 36) Tryz.underlying34 info_strs (by rfl) (by omega) n (by omega) W
  clear hf0 kp kv kb hW0 hO0 hbx ho hP hT hR his iz0 iz1 iz2
  go_enter Tryz.func7, Tryz.ntmps7
  go_wp2_with fail
  rw [HW0.out]
  refine HQ1.out.mono ?_
  rintro e w1 ⟨B, d, c, vl, lo', I, rfl, hdd, hst1, hI1, hb1⟩
  have HST := Lib.hid hst1
  have HI := Lib.hid hI1
  have HDD := Lib.hid hdd
  have HB1 := Lib.hid (HBX.out.trans (hb1.mono (by omega)))
  have hw1 : w.heap.size ≤ w1.heap.size := HB1.out.size
  clear hst1 hI1 hb1 hdd HQ1
  go_wp2_with fail
  have HR0 := Lib.hid (RF.made w1 n)
  have HB0 := Lib.hid (show Below w1.heap.size w1 (w1.alloc (.cells (List.replicate n (.slice none 0 0)).toArray 36)) from (Below.refl _ _).alloc (Nat.le_refl _) _)
  have HQ0 := Lib.hid (show ∀ i : Nat, i < 0 → Rise ([] : List Wd) ∧ ∀ x, x ∈ ([] : List Wd) ↔ SetF f i x from fun i h => absurd h (Nat.not_lt_zero _))
  clear hmk
  go_loopw [14] (fun iv wr => ∃ (k : Nat) (vi : Nat → Value) (li : Nat → List Wd), k ≤ n ∧ iv = .int .i64 k ∧ Hid (RF wr w1.heap.size w1.heap.size n vi li) ∧ Hid (∀ i, i < k → Rise (li i) ∧ ∀ x, x ∈ li i ↔ SetF f i x) ∧ Hid (∀ i, k ≤ i → vi i = .slice none 0 0 ∧ li i = []) ∧ Hid (Below w1.heap.size w1 wr)) (fun iv _ => n - (intOf iv).toNat)
  case atStart => exact ⟨0, _, _, Nat.zero_le _, rfl, HR0, HQ0, Lib.hid (fun i _ => ⟨rfl, rfl⟩), HB0⟩
  case round =>
  clear HR0 HB0 HQ0
  obtain ⟨k, vi, li, hk, rfl, HR, HQ, HN, HBr⟩ := hrel
  have hsz : w1.heap.size ≤ wr.heap.size := HBr.out.size
  by_cases hlt : k < n
  · have hst := HST.out.below HBr.out
    have n2 := (hst.cell hlt (show 2 < 4 by omega)).trans (congrArg some (show FA n d c vl k 2 = .map (some (c (4 * k + 3))) from by simp [FA, HDD.out k hlt]))
    have hs2 := hst.ms.set (4 * k + 3) (ok3 hlt (HDD.out k hlt))
    rw [mix_at] at hs2
    have hcr : c (4 * k + 3) < w1.heap.size := (HST.out.ms.set (4 * k + 3) (ok3 hlt (HDD.out k hlt))).lt
    obtain ⟨D, hD1, hD2, hD3, hD4, hD5, hD6⟩ := hs2.keys
    have HD := Lib.hid hD1
    have HD2 := Lib.hid hD2
    have HUB := Lib.hid (show ∀ x, I k x = true → x ∈ U from hs2.2)
    clear hst hs2 hD1 hD2 hD3 hD4 hD5 hD6
    go_wp2_with (at_range; refine wpList_range_own _ rfl _ 73 rfl 9 112 lawS Tryz.underlying73 _ (c (4 * k + 3)) _ D rfl HD.out ?_; intro w0 hrg0 hg0 hs0)
    go_frame
    obtain ⟨rb, hrb⟩ : ∃ r, wr.heap.size = r := ⟨_, rfl⟩
    rw [hrb] at hrg0 hs0 ⊢
    have hb0 : Below wr.heap.size wr w0 := (Below.refl _ _).grown hg0 (Nat.le_refl _) (fun j hj => by cases hj)
    have HRG0 := Lib.hid hrg0
    have HB0 := Lib.hid (HBr.out.trans (hb0.mono hsz))
    have HC0 := Lib.hid (Cut.start (A := fun _ => false) (X := fun _ => false) HD2.out)
    have HRF0 := Lib.hid (show RF w0 w1.heap.size w1.heap.size n (upd vi k (.slice none 0 0)) (upd li k []) from by
      have h := HR.out.below hb0
      have e1 := upd_self vi k
      have e2 := upd_self li k
      rw [(HN.out k (Nat.le_refl _)).1] at e1
      rw [(HN.out k (Nat.le_refl _)).2] at e2
      rw [e1, e2]
      exact h)
    have hrb1 : w1.heap.size < rb := by
      have := HR.out.out.lt
      omega
    clear hrg0 hg0 hs0 hb0 n2 hrb HR
    go_loopw [6] (fun _ wr2 => ∃ (left : Lit → Bool) (cnt : Nat) (A : Option Addr) (q : Nat) (r : List Wd), Hid (wr2.ranges Tryz.prog 9 unitElem (c (4 * k + 3)) rb (size D) D left cnt) ∧ Hid (Cut (I k) (fun _ => false) (fun _ => false) D left r) ∧ Hid (RF wr2 w1.heap.size w1.heap.size n (upd vi k (.slice A r.length q)) (upd li k r)) ∧ Hid (Below w1.heap.size w1 wr2)) (fun _ wr2 => wr2.rangeLeft (c (4 * k + 3)) rb)
    case atStart => exact ⟨_, _, none, 0, [], HRG0, HC0, HRF0, HB0⟩
    case round =>
    clear HRG0 HC0 HRF0 HB0
    obtain ⟨left, cnt, A, q, r, HRG, HC, HR, HB2⟩ := hrel
    have hrl : r.length ≤ 1000000000000 := Nat.le_trans (sub_len HC.out.nd fun x hx => HUB.out x (HC.out.is x hx).1.1) hU.len
    go_wp2_with (at_next; refine next_set _ rfl _ rfl 9 lawS Tryz.underlying9 (c (4 * k + 3)) rb _ D _ _ rfl HRG.out ?_ ?_)
    · skip
      intro hc0 hl0
      have HFIN := Lib.hid (HC.out.fin hl0)
      clear hl0
      have n7 := HR.out.cell hlt
      rw [upd_at] at n7
      have hro := HR.out.rg.own k hlt
      rw [upd_at, upd_at] at hro
      have HQS := Lib.hid (sort13_any hro hrl)
      clear hro
      go_wp2_with fail
      refine HQS.out.mono ?_
      rintro e w7 ⟨rfl, ho7, g7⟩
      obtain ⟨r', hr'⟩ : ∃ r', r.mergeSort (fun x y => decide (x ≤ y)) = r' := ⟨_, rfl⟩
      have hlr : r'.length = r.length := by rw [← hr', List.length_mergeSort]
      have hrise : Rise r' := by rw [← hr']; exact rise_sort HC.out.nd
      have hmem : ∀ x, x ∈ r' ↔ SetF f k x := fun x => by
        rw [← hr', List.mem_mergeSort, HFIN.out x]
        refine Iff.trans ?_ (HI.out k x hlt)
        simp
      rw [hr'] at ho7
      have hR7 := HR.out.grow hlt (l' := r') (by rw [upd_at]; exact g7) (by rw [upd_at, hlr]; exact ho7)
      rw [upd_upd] at hR7
      have HR7 := Lib.hid hR7
      have HB7 := Lib.hid (show Below w1.heap.size w1 w7 from HB2.out.grown g7 HB2.out.size (fun j hj => by
        have := HR.out.rg.own k hlt
        rw [upd_at, upd_at] at this
        exact (this.lt j hj).1))
      have HQ7 := Lib.hid (show ∀ i, i < k + 1 → Rise (upd li k r' i) ∧ ∀ x, x ∈ upd li k r' i ↔ SetF f i x from fun i hi => by
        by_cases e : i = k
        · subst e
          rw [upd_at]
          exact ⟨hrise, hmem⟩
        · rw [upd_ne _ _ e]
          exact HQ.out i (by omega))
      have HN7 := Lib.hid (show ∀ i, k + 1 ≤ i → upd vi k (.slice A r.length q) i = .slice none 0 0 ∧ upd li k r' i = [] from fun i hi => by
        rw [upd_ne _ _ (by omega), upd_ne _ _ (by omega)]
        exact HN.out i (by omega))
      clear hr' hlr hrise hmem ho7 g7 hR7 HQS n7
      go_wp2_with fail
      go_roundw
      case rel => exact ⟨k + 1, _, _, by omega, by go_num, HR7, HQ7, HN7, HB7⟩
      case measure => simp [intOf]; omega
    · intro x w9 cnt1 hlx hrg1 hlt1 hg1 hs1 hen
      have hx4 := hU.nm x (HUB.out x (by rw [← HD2.out]; exact HC.out.sub _ hlx))
      have HR1 := Lib.hid (HR.out.walk hg1 (ranges_iter HRG.out))
      have HB1' := Lib.hid (show Below w1.heap.size w1 w9 from HB2.out.grown hg1 HB2.out.size (fun j hj => by cases hj; omega))
      have n7 := HR1.out.cell hlt
      rw [upd_at] at n7
      have HRG1 := Lib.hid hrg1
      have HLX := Lib.hid hlx
      have HLT := Lib.hid hlt1
      have HCL := Lib.hid (clone_any ⟨x.toArray⟩ w9.drew (by simp [ByteArray.size]; omega))
      clear hrg1 hlx hlt1 hg1 hs1 HR HB2
      go_wp2_with fail
      go_region_law (first
        | (go_simp; go_at_call 20; (with_reducible refine HCL.out.mono ?_); rintro e w6 ⟨rfl, hb6⟩; have H96 := Lib.hid (show Below w9.heap.size w9 w6 from (Below.refl _ w9).drew.trans hb6); have HR6 := Lib.hid (HR1.out.below H96.out); have n8 := HR6.out.cell hlt; have n9 := (HR6.out.below (show Below w6.heap.size w6 (w6.alloc (.cells #[.string ⟨x.toArray⟩] 9)) from (Below.refl _ _).alloc (Nat.le_refl _) _)).cell hlt; rw [upd_at] at n8 n9; clear hb6)
        | (refine step_growP rfl _ _ 36 rfl w1.heap.size 9 1 is _ 16 Tryz.underlying36 HIS.out.1 HIS.out.2.1 HIS.out.2.2.1 HIS.out.2.2.2 rfl Nat.one_pos _ _ _ rfl (by have := HR6.out.rg.own k hlt; rw [upd_at, upd_at] at this; exact this) [str x] _ rfl rfl rfl (by intro u hu; rw [List.mem_singleton] at hu; subst hu; rfl) (by omega) (by omega) (Nat.le_trans HB1'.out.size H96.out.size) ?_; intro v8 w8 h8 g8 f8; obtain ⟨A8, k8, rfl⟩ := row_form h8; have H8 := Lib.hid h8; have G8 := Lib.hid g8; have F8 := Lib.hid f8; obtain ⟨c8, t8⟩ := HR6.out.after hlt (by rw [upd_at]; exact g8); rw [upd_at] at c8; clear h8 g8 f8)
        | fail "no")
      all_goals
        have HRG6 := Lib.hid (HRG1.out.kept (g67 (row := none) H96.out) (by simp) (by simp))
        have HB6 := Lib.hid (HB1'.out.trans (H96.out.mono HB1'.out.size))
        have hro : w6.ownsRow w1.heap.size 9 1 (.slice A r.length q) r.length (r.map str) := by
          have := HR6.out.rg.own k hlt
          rwa [upd_at, upd_at] at this
        have HRO := Lib.hid hro
        clear hro
        have HRG8 := Lib.hid ((HRG6.out.kept G8.out (row_not HRO.out (ranges_map HRG6.out)) (row_not HRO.out (ranges_iter HRG6.out))).kept (grown_cell w8 ⟨w1.heap.size, k, none⟩ (.slice A8 (r.length + 1) k8)) (by simp; omega) (by simp; omega))
        have HC8 := Lib.hid (HC.out.add HD2.out HLX.out rfl rfl)
        have HB8 := Lib.hid ((HB6.out.grown G8.out HB6.out.size (fun j hj => (HRO.out.lt j hj).1)).grown (grown_cell w8 ⟨w1.heap.size, k, none⟩ (.slice A8 (r.length + 1) k8)) (Nat.le_trans HB6.out.size G8.out.size) (fun j hj => by cases hj; exact Nat.le_refl _))
        have hR8 := HR6.out.push hlt (v' := .slice A8 (r.length + 1) k8) (l' := r ++ [x]) (by rw [upd_at]; exact G8.out) (by have := H8.out; simpa using this) (by rw [upd_at]; exact F8.out)
        rw [upd_upd, upd_upd] at hR8
        have HR8 := Lib.hid hR8
        clear hR8
        go_wp2_with fail
        go_roundw
        case rel => exact ⟨_, cnt1, A8, k8, r ++ [x], HRG8, HC8, Lib.hid (by rw [show (r ++ [x]).length = r.length + 1 by simp]; exact HR8.out), HB8⟩
        case measure => rw [HRG8.out.left_eq, HRG.out.left_eq]; exact HLT.out
  · obtain rfl : k = n := by omega
    have HRR := Lib.hid (((show RF wr w.heap.size w1.heap.size k vi li from ⟨hw1, HR.out.out, HR.out.rg.lower hw1⟩).rows HQ.out))
    go_wp2_with fail
    go_ret
    exact ⟨_, rfl, HRR.out, HB1.out.trans (HBr.out.mono hw1)⟩
end Go.Proofs.YtdgmdpphimenjaaGreatDoor.As13
