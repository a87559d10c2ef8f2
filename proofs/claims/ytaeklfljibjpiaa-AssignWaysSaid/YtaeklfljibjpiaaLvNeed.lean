/-
  Layer 12: what a block is told.
-/
import Derived.Test.YtaeklfljibjpiaaLvTell
namespace Go.Proofs.Ytaeklfljibjpiaa.Lv12
open Go.RowKit Api Mem Sh8 Go.Maps

/-- what comes of telling these names to a block that sets X and has L live: L' is live, and these are new. -/
structure Ned (X L L' : Wd → Bool) (bh add : List Wd) : Prop where
  iff : ∀ x, L' x = true ↔ L x = true ∨ x ∈ add
  new : ∀ x ∈ add, x ∈ bh ∧ X x = false ∧ L x = false
  nd : add.Nodup
  all : ∀ x ∈ bh, X x = true ∨ L' x = true
theorem Ned.start (X L : Wd → Bool) : Ned X L L [] [] := ⟨fun x => (by simp), fun x h => (by cases h), List.nodup_nil, fun x h => (by cases h)⟩
theorem Ned.skip {X L L' : Wd → Bool} {bh add : List Wd} (h : Ned X L L' bh add) {x : Wd} (hx : X x = true ∨ L' x = true) : Ned X L L' (bh ++ [x]) add :=
  ⟨h.iff, fun y hy => ⟨List.mem_append_left _ (h.new y hy).1, (h.new y hy).2⟩, h.nd, fun y hy => by
    rcases List.mem_append.1 hy with hy | hy
    · exact h.all y hy
    · rw [List.mem_singleton] at hy
      subst hy
      exact hx⟩
theorem Ned.add {X L L' : Wd → Bool} {bh add : List Wd} (h : Ned X L L' bh add) {x : Wd} (hx : X x = false) (hl : L' x = false) : Ned X L (addS L' x) (bh ++ [x]) (add ++ [x]) := by
  have h0 : ¬ (L x = true ∨ x ∈ add) := fun e => by rw [(h.iff x).2 e] at hl; cases hl
  refine ⟨fun y => ?_, fun y hy => ?_, ?_, fun y hy => ?_⟩
  · unfold addS
    rw [Bool.or_eq_true, h.iff y, decide_eq_true_iff, List.mem_append, List.mem_singleton, or_assoc]
  · rcases List.mem_append.1 hy with hy | hy
    · exact ⟨List.mem_append_left _ (h.new y hy).1, (h.new y hy).2⟩
    · rw [List.mem_singleton] at hy
      subst hy
      exact ⟨by simp, hx, by cases e : L y with | true => exact absurd (.inl e) h0 | false => rfl⟩
  · rw [List.nodup_append]
    exact ⟨h.nd, by simp, fun a ha b hb e => h0 (.inr (by rw [List.mem_singleton] at hb; rw [← hb, ← e]; exact ha))⟩
  · rcases List.mem_append.1 hy with hy | hy
    · rcases h.all y hy with e | e
      · exact .inl e
      · exact .inr (by simp [addS, e])
    · rw [List.mem_singleton] at hy
      exact .inr (by simp [addS, hy])
theorem add_le {X L L' : Wd → Bool} {bh add : List Wd} (h : Ned X L L' bh add) : add.length ≤ bh.length := sub_len h.nd fun x hx => (h.new x hx).1
theorem g67 {w w' : World} (h : Below w.heap.size w w') {row : Option Nat} : w.grownBy w' row := ⟨h.os, h.tape, h.output, h.size, fun k hk _ => h.block k hk⟩
theorem upd_upd {α : Type} (f : Nat → α) (i : Nat) (a b : α) : upd (upd f i a) i b = upd f i b := funext fun j => by unfold upd; split <;> rfl
theorem upd_self {α : Type} (f : Nat → α) (i : Nat) : upd f i (f i) = f := funext fun j => by unfold upd; split <;> simp_all
/-- between two names. -/
def NeedS (U : List Wd) (w : World) (base B n m : Nat) (c : Nat → Nat) (S : Nat → Wd → Bool) (vi : Nat → Value) (li : Nat → List Int) (vg : Nat → Value) (gr : Nat → List Wd) (i : Nat) (vb : Value) (bh : List Wd) (k : Nat) (w' : World) : Prop :=
  ∃ L' add v', Ned (S (4 * i + 1)) (S (4 * i + 3)) L' (bh.take k) add ∧ St U w' base B n m c (upd S (4 * i + 3) L') vi li (upd vg i v') (upd gr i (gr i ++ add)) ∧ w'.ownsRow base 9 1 vb bh.length (bh.map str) ∧ (∀ j k, j < n → ((upd vg i v') j).ownBlock = some k → vb.ownBlock ≠ some k) ∧ Below base w w' ∧ KeepI w w'
set_option maxRecDepth 100000 in
set_option maxHeartbeats 8000000 in
theorem need_any {U : List Wd} (hU : UOk U) {w : World} {base B n m : Nat} {c : Nat → Nat} {S : Nat → Wd → Bool} {vi : Nat → Value} {li : Nat → List Int} {vg : Nat → Value} {gr : Nat → List Wd} (h : St U w base B n m c S vi li vg gr) (hb : base ≤ w.heap.size) {i : Nat} (hi : i < n) (him : i < m) (hgl : (gr i).length ≤ 1000000000000)
    (A : Option Addr) (k0 : Nat) (bh : List Wd) (hbh : w.ownsRow base 9 1 (.slice A bh.length k0) bh.length (bh.map str)) (hbU : ∀ x ∈ bh, x ∈ U) (hbl : bh.length ≤ 1000000000000) (hap : ∀ j k, j < n → (vg j).ownBlock = some k → (Value.slice A bh.length k0).ownBlock ≠ some k) :
    Calls Try.prog 78 #[.pointer (some ⟨B, i * 7, none⟩), .slice A bh.length k0] w fun e w' => e = .returned (.tuple #[]) ∧ NeedS U w base B n m c S vi li vg gr i (.slice A bh.length k0) bh bh.length w' := by
  obtain ⟨is, his, hz0, hz1, hz2⟩ := info_parts info_str
  have HIS := Lib.hid (show _ ∧ _ ∧ _ ∧ _ from ⟨his, hz0, hz1, hz2⟩)
  clear his hz0 hz1 hz2
  have HOK1 := Lib.hid (show OkM n m (4 * i + 1) from ⟨by omega, fun h => by omega⟩)
  have HOK3 := Lib.hid (show OkM n m (4 * i + 3) from ⟨by omega, fun h => by omega⟩)
  have HBU := Lib.hid hbU
  have HH := Lib.hid (show NeedS U w base B n m c S vi li vg gr i (.slice A bh.length k0) bh 0 w from
    ⟨S (4 * i + 3), [], vg i, Ned.start _ _, by rw [upd_self, List.append_nil, upd_self, upd_self]; exact h, hbh, by rw [upd_self]; exact hap, Below.refl _ _, KeepI.refl _⟩)
  clear h hbU hbh hap
  go_enter Try.func78, Try.ntmps78
  go_wp2_with fail
  go_loopw [8] (fun iv wr => ∃ k : Nat, k ≤ bh.length ∧ iv = .int .i64 k ∧ Hid (NeedS U w base B n m c S vi li vg gr i (.slice A bh.length k0) bh k wr)) (fun iv _ => bh.length - (intOf iv).toNat)
  case atStart => exact ⟨0, Nat.zero_le _, rfl, HH⟩
  case round =>
  clear HH
  obtain ⟨k, hk, rfl, HH⟩ := hrel
  by_cases hlt : k < bh.length
  · obtain ⟨x, hx⟩ : ∃ x, bh[k]? = some x := ⟨_, List.getElem?_eq_getElem hlt⟩
    obtain ⟨L', add, v', hN, hst, hrow, hap, hbw, hki⟩ := HH.out
    obtain ⟨b, rfl, hbase, hbl2⟩ := own_addr hrow hlt
    have n1 := own_at hrow (show (bh.map str)[k]? = some (str x) by rw [List.getElem?_map, hx]; rfl)
    have n3 := (hst.cell hi (show 3 < 7 by omega)).trans (congrArg some (show FF m c vi (upd vg i v') i 3 = .map (some (c (4 * i + 1))) from rfl))
    have hxU := HBU.out x (List.mem_of_getElem? hx)
    have hx4 := hU.nm x hxU
    have hs1 := hst.ms.set _ HOK1.out
    rw [upd_ne _ _ (by omega)] at hs1
    have HQ1 := Lib.hid (has_any hs1 x hx4)
    have HQ2 := Lib.hid (fun (w1 : World) (hb1 : Below wr.heap.size wr w1) => (show Calls Try.prog 41 #[.map (some (c (4 * i + 3))), str x] w1 _ from has_any (S := L') (by
      have hs3 := (hst.below hb1).ms.set _ HOK3.out
      rwa [upd_at] at hs3) x hx4))
    have HF := Lib.hid (fun (w1 : World) (hb1 : Below wr.heap.size wr w1) => (show w1.cell? ⟨B, i * 7 + 5, none⟩ = some (.map (some (c (4 * i + 3)))) from ((hst.below hb1).cell hi (show 5 < 7 by omega)).trans (congrArg some (by simp [FF, him]))))
    obtain ⟨d1, hd1⟩ : ∃ d, S (4 * i + 1) x = d := ⟨_, rfl⟩
    obtain ⟨d2, hd2⟩ : ∃ d, L' x = d := ⟨_, rfl⟩
    rw [hd1] at HQ1
    simp only [hd2] at HQ2
    have HTK := Lib.hid (take_at hx)
    have HD1 := Lib.hid hd1
    have HD2 := Lib.hid hd2
    have HN := Lib.hid hN
    have HST := Lib.hid hst
    have HRW := Lib.hid hrow
    have HAP := Lib.hid hap
    have HBW := Lib.hid hbw
    have HKI := Lib.hid hki
    clear hx hN hst hrow hap hbw hki hs1 hd1 hd2
    go_wp2_with fail
    refine HQ1.out.mono ?_
    rintro e w5 ⟨rfl, g5⟩
    have HB5 := Lib.hid (show Below wr.heap.size wr w5 from (Below.refl _ _).grown g5 (Nat.le_refl _) (fun j hj => by cases hj))
    clear g5
    cases d1 with
    | true =>
      go_wp2_with fail
      go_roundw
      case rel =>
        refine ⟨k + 1, by omega, by go_num, Lib.hid ⟨L', add, v', ?_, HST.out.below HB5.out, own_below HRW.out HB5.out, HAP.out, HBW.out.trans (HB5.out.mono (Nat.le_trans hb HBW.out.size)), HKI.out.trans (KeepI.below HB5.out)⟩⟩
        rw [HTK.out]
        exact HN.out.skip (.inl HD1.out)
      case measure => simp [intOf]; omega
    | false =>
      have n5 := HF.out w5 HB5.out
      go_wp2_with fail
      refine (HQ2.out w5 HB5.out).mono ?_
      rintro e w6 ⟨rfl, g6⟩
      have HB6 := Lib.hid (HB5.out.trans ((show Below w5.heap.size w5 w6 from (Below.refl _ _).grown g6 (Nat.le_refl _) (fun j hj => by cases hj)).mono HB5.out.size))
      clear g6 n5
      cases d2 with
      | true =>
        go_wp2_with fail
        go_roundw
        case rel =>
          refine ⟨k + 1, by omega, by go_num, Lib.hid ⟨L', add, v', ?_, HST.out.below HB6.out, own_below HRW.out HB6.out, HAP.out, HBW.out.trans (HB6.out.mono (Nat.le_trans hb HBW.out.size)), HKI.out.trans (KeepI.below HB6.out)⟩⟩
          rw [HTK.out]
          exact HN.out.skip (.inr HD2.out)
        case measure => simp [intOf]; omega
      | false =>
        have n6 := HF.out w6 HB6.out
        have HA := Lib.hid (add_any hU (show SetO U w6 (c (4 * i + 3)) L' from by
          have hs3 := (HST.out.below HB6.out).ms.set _ HOK3.out
          rwa [upd_at] at hs3) x hxU)
        go_wp2_with fail
        refine HA.out.mono ?_
        rintro e w7 ⟨rfl, h7, g7⟩
        have hst7 := (HST.out.below HB6.out).putm HOK3.out g7 h7
        rw [upd_upd] at hst7
        obtain ⟨q, hq⟩ : ∃ q, gr i ++ add = q := ⟨_, rfl⟩
        rw [hq] at hst7
        have n7 := (hst7.cell hi (show 6 < 7 by omega)).trans (congrArg some (show FF m c vi (upd vg i v') i 6 = v' from upd_at _ _ _))
        have hgrow := hst7.rg.own i hi
        rw [upd_at, upd_at] at hgrow
        obtain ⟨A7, k7, rfl⟩ := row_form hgrow
        have HS7 := Lib.hid hst7
        have HG7 := Lib.hid hgrow
        have HW7 := Lib.hid (show base ≤ w7.heap.size from Nat.le_trans (Nat.le_trans hb HBW.out.size) (Nat.le_trans HB6.out.size g7.size))
        have hgl7 : q.length ≤ 2000000000000 := by
          rw [← hq]
          have := add_le HN.out
          have h2 := List.length_take_le k bh
          simp only [List.length_append]
          omega
        have HGL := Lib.hid hgl7
        have HQQ := Lib.hid hq
        have HR7 := Lib.hid (row_other HRW.out ((g67 HB6.out).andThen g7 fun j e => .inr e) (notT_map ((HST.out.ms.set _ HOK3.out)) _))
        have HKI7 := Lib.hid (show KeepI w w7 from (HKI.out.trans (KeepI.below HB6.out)).trans (KeepI.grown g7 (fun b e => by cases e; exact notT_map (by have hs3 := (HST.out.below HB6.out).ms.set _ HOK3.out; exact hs3) _)))
        have HB7 := Lib.hid (show Below base w w7 from ((HBW.out.trans (HB6.out.mono (Nat.le_trans hb HBW.out.size))).grown g7 (Nat.le_trans (Nat.le_trans hb HBW.out.size) HB6.out.size) (fun j hj => by cases hj; exact HST.out.mb _ HOK3.out)))
        clear hst7 hgrow h7 g7 hgl7 n6 n1 n3 hq
        go_wp2_with (at_builtin; refine wpList_growP rfl _ _ 31 rfl base 9 1 is _ 16 Try.underlying31 HIS.out.1 HIS.out.2.1 HIS.out.2.2.1 HIS.out.2.2.2 rfl Nat.one_pos _ _ _ rfl HG7.out [str x] _ rfl rfl rfl (by intro u hu; rw [List.mem_singleton] at hu; subst hu; rfl) (by have := HGL.out; omega) (by have := HGL.out; omega) HW7.out ?_; intro v8 w8 h8 g8 f8; obtain ⟨A8, k8, rfl⟩ := row_form h8; have hg8 : w7.grownBy w8 ((upd vg i (.slice A7 q.length k7)) i).ownBlock := (by rw [upd_at]; exact g8); have n8 := ((HS7.out.outAt hi hg8).cell hi (show 6 < 7 by omega)).trans (congrArg some (show FF m c vi (upd vg i (.slice A7 q.length k7)) i 6 = (.slice A7 q.length k7) from upd_at _ _ _)); have t8 := (HS7.out.outAt hi hg8).thaw (i * 7 + 6); have H8 := Lib.hid h8; have G8 := Lib.hid g8; have GG8 := Lib.hid hg8; have F8 := Lib.hid f8; clear h8 g8 f8 hg8)
        go_roundw
        case rel =>
          have hp := HS7.out.push hi GG8.out (v' := .slice A8 (q.length + 1) k8) (l' := q ++ [x]) (by simpa using H8.out) (by rw [upd_at]; exact F8.out)
          rw [upd_upd, upd_upd] at hp
          have gc := grown_cell w8 ⟨B, i * 7 + 6, none⟩ (.slice A8 (q.length + 1) k8)
          have hr8 : w8.ownsRow base 9 1 (.slice (some ⟨b, 0, none⟩) bh.length k0) bh.length (bh.map str) := World.ownsRow.kept HR7.out G8.out (.inr fun e => HAP.out i b hi (by rw [upd_at]; exact e.symm) rfl)
          refine ⟨k + 1, by omega, by go_num, Lib.hid ⟨addS L' x, add ++ [x], .slice A8 (q.length + 1) k8, ?_, ?_, row_other hr8 gc ((HS7.out.outAt hi GG8.out).notT (by decide)), ?_, ?_, ?_⟩⟩
          · rw [HTK.out]
            exact HN.out.add HD1.out HD2.out
          · rw [← List.append_assoc, HQQ.out]
            exact hp
          · intro j kk hj hk hv
            by_cases e : j = i
            · subst e
              rw [upd_at] at hk
              rcases F8.out with f | f
              · exact HAP.out j kk hj (by rw [upd_at]; exact f.symm.trans hk) hv
              · have h1 := f kk hk
                have h2 := ((HR7.out).lt kk hv).2
                omega
            · rw [upd_ne _ _ e] at hk
              exact HAP.out j kk hj (by rw [upd_ne _ _ e]; exact hk) hv
          · have h1 := HB7.out.grown G8.out HW7.out (fun j hj => (HG7.out.lt j hj).1)
            exact h1.grown gc (Nat.le_trans HW7.out G8.out.size) (fun j hj => by cases hj; exact HS7.out.ob)
          · exact (HKI7.out.trans (KeepI.grown G8.out (fun b e => notT_row HG7.out e (by decide)))).trans (KeepI.grown gc (fun b e => by cases e; exact (HS7.out.outAt hi GG8.out).notT (by decide)))
        case measure => simp [intOf]; omega
  · obtain rfl : k = bh.length := by omega
    go_wp2_with fail
    go_end0
    exact ⟨rfl, HH.out⟩
end Go.Proofs.Ytaeklfljibjpiaa.Lv12
