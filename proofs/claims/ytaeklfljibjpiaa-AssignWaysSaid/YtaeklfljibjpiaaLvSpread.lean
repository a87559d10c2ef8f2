/-
  Layer 12: going through blocks backward, as long as what is live grows.
-/
import Derived.Test.YtaeklfljibjpiaaLvSol
import Derived.Test.YtaeklfljibjpiaaShCome
namespace Go.Proofs.Ytaeklfljibjpiaa.Lv12
open Go.RowKit Api Mem Sh8 Go.Maps

theorem info_int13 : (Try.prog.info? 3).map (fun i => (i.zero, i.size, i.bytes)) = some (some (.int .i64 0), 1, 8) := by kernel_rfl
abbrev iN (R : List Nat) : List Value := R.map fun r : Nat => i64 (r : Int)
/-- a row of numbers of the call's own has turned, which none of the blocks' rows is. -/
theorem St.rowI {U : List Wd} {w w' : World} {base B n m : Nat} {c : Nat → Nat} {S : Nat → Wd → Bool} {vi : Nat → Value} {li : Nat → List Int} {vg : Nat → Value} {gr : Nat → List Wd} (h : St U w base B n m c S vi li vg gr) {b0 k : Nat} {v : Value} {xs : List Value} (ho : w.ownsRow b0 3 1 v k xs) (hg : w.grownBy w' v.ownBlock) (hne : ∀ i b, i < 2 * n → (vi i).ownBlock = some b → v.ownBlock ≠ some b) : St U w' base B n m c S vi li vg gr := by
  have hr : ∀ b, v.ownBlock = some b → IsRow w b := fun b hb => isRow_row ho hb
  have hB : v.ownBlock ≠ some B := fun e => by
    have h1 := notT_row ho e (e := 95) (by decide)
    obtain ⟨cs, h2, _⟩ := h.out
    exact h1 _ _ h2
  refine ⟨h.ob, h.out.other hg hB, h.ms.row hg hr, h.mb, ⟨fun i hi => World.ownsRow.kept (h.ri.own i hi) hg ?_, h.ri.ap⟩, h.rg.others hg fun b hb => notT_row ho hb (by decide)⟩
  cases hv : (vi i).ownBlock with
  | none => exact .inl rfl
  | some b => exact .inr fun e => hne i b hi hv e.symm
def GG (n : Nat) (S : Nat → Wd → Bool) (i : Nat) (x : Wd) : Bool := decide (i < n) && S (4 * i + 3) x
/-- what is live at the first place of block i, of what blocks tell by themselves. -/
abbrev LvS (E : List Edge) (n : Nat) (S : Nat → Wd → Bool) : Nat → Wd → Prop := Lv E (fun i => S (4 * i)) (fun i => S (4 * i + 1)) (GG n S)
/-- between two blocks: memory. -/
structure SpW (U : List Wd) (E : List Edge) (base B n : Nat) (c : Nat → Nat) (S : Nat → Wd → Bool) (vi : Nat → Value) (w w' : World) (L : Nat → Wd → Bool) (vg : Nat → Value) (gr : Nat → List Wd) (R : List Nat) (rv : Value) : Prop where
  st : St U w' base B n n c (mix S L) vi (LI E) vg gr
  row : w'.ownsRow w.heap.size 3 1 rv R.length (iN R)
  bel : Below base w w'
theorem SpW.grU {U : List Wd} {E : List Edge} {base B n : Nat} {c : Nat → Nat} {S : Nat → Wd → Bool} {vi : Nat → Value} {w w' : World} {L : Nat → Wd → Bool} {vg : Nat → Value} {gr : Nat → List Wd} {R : List Nat} {rv : Value} (h : SpW U E base B n c S vi w w' L vg gr R rv) {i : Nat} (hi : i < n) {x : Wd} (hx : L i x = true) : x ∈ U := by
  have h1 := (h.st.ms.set (4 * i + 3) ⟨by omega, fun _ => by omega⟩).2 x
  rw [mix_at] at h1
  exact h1 hx
theorem filter_range_next (p : Nat → Bool) (k : Nat) : (List.range (k + 1)).filter p = (List.range k).filter p ++ (if p k = true then [k] else []) := by
  rw [List.range_succ, List.filter_append]
  congr 1
  by_cases e : p k = true <;> simp [e]
set_option maxRecDepth 100000 in
set_option maxHeartbeats 8000000 in
theorem spread_any {U : List Wd} (hU : UOk U) {w : World} {base B n : Nat} {c : Nat → Nat} {S : Nat → Wd → Bool} {vi : Nat → Value} {E : List Edge} {vg : Nat → Value} {gr : Nat → List Wd} (h : St U w base B n n c S vi (LI E) vg gr) (hb : base ≤ w.heap.size) (hE : ∀ e ∈ E, e.1 < n ∧ e.2 < n) (hEl : E.length ≤ 1000000000000) (hn : n ≤ 1000000000) (hnU : n * U.length ≤ 1000000000000) (hg : ∀ i, i < n → (gr i).Nodup ∧ ∀ x, x ∈ gr i ↔ S (4 * i + 3) x = true) :
    Calls Try.prog 47 #[.slice (some ⟨B, 0, none⟩) n n] w fun e w' => e = .returned (.tuple #[]) ∧ (∃ L vg' gr', St U w' base B n n c (mix S L) vi (LI E) vg' gr' ∧ ∀ i x, i < n → (L i x = true ↔ LvS E n S i x)) ∧ Below base w w' := by
  obtain ⟨ii, hii, hi0, hi1, hi2⟩ := info_parts info_int13
  have HII := Lib.hid (show _ ∧ _ ∧ _ ∧ _ from ⟨hii, hi0, hi1, hi2⟩)
  clear hii hi0 hi1 hi2
  have HVI := Lib.hid (fun (i b : Nat) (hi : i < 2 * n) (e : (vi i).ownBlock = some b) => ((h.ri.own i hi).lt b e).2)
  have HST := Lib.hid h
  have HG := Lib.hid hg
  have HE := Lib.hid hE
  have HEL := Lib.hid hEl
  have HNU := Lib.hid hnU
  have HGL : Hid (∀ i, i < n → (gr i).length ≤ 1000000000000) := Lib.hid (fun i hi => Nat.le_trans (sub_len (hg i hi).1 fun x hx => (h.ms.set (4 * i + 3) ⟨by omega, fun _ => by omega⟩).2 x (((hg i hi).2 x).1 hx)) hU.len)
  have HN0 := Lib.hid (show w.ownsRow w.heap.size 3 1 (.slice none 0 0) 0 (iN []) from ⟨by simp, .inl ⟨rfl, rfl⟩⟩)
  clear h hg hE hEl hnU
  go_enter Try.func47, Try.ntmps47
  go_wp2_with fail
  go_loopw [2, 11] (fun rv iv wr => ∃ (k : Nat) (R : List Nat) (A1 : Option Addr) (k1 : Nat), k ≤ n ∧ iv = .int .i64 k ∧ rv = .slice A1 R.length k1 ∧ R.length ≤ n ∧ Hid (R = (List.range k).filter fun i => !(gr i).isEmpty) ∧ Hid (wr.ownsRow w.heap.size 3 1 (.slice A1 R.length k1) R.length (iN R)) ∧ Hid (Below w.heap.size w wr)) (fun _ iv _ => n - (intOf iv).toNat)
  case atStart => exact ⟨0, [], none, 0, Nat.zero_le _, rfl, rfl, Nat.zero_le _, Lib.hid rfl, HN0, Lib.hid (Below.refl _ _)⟩
  case round =>
  obtain ⟨k, R, A1, k1, hk, rfl, rfl, hRl, HR, HRW, HBr⟩ := hrel
  by_cases hlt : k < n
  · have hst := HST.out.below HBr.out
    have n6 := (hst.cell hlt (show 6 < 7 by omega)).trans (congrArg some (show FF n c vi vg k 6 = vg k from rfl))
    obtain ⟨A6, k6, hv6⟩ := row_form (hst.rg.own k hlt)
    have hq9 := HGL.out k hlt
    obtain ⟨q, hq⟩ : ∃ q, (gr k).length = q := ⟨_, rfl⟩
    rw [hq] at hv6 hq9
    rw [hv6] at n6
    have HQ := Lib.hid hq
    have hRk : R.length ≤ k := by
      rw [HR.out]
      exact Nat.le_trans (List.length_filter_le _ _) (by rw [List.length_range]; exact Nat.le_refl _)
    clear hst hv6 hq
    by_cases h0 : q = 0
    · subst h0
      go_wp2_with fail
      go_roundw
      case rel => exact ⟨k + 1, R, A1, k1, by omega, by go_num, rfl, hRl, Lib.hid (by
        rw [filter_range_next, if_neg (by rw [List.eq_nil_of_length_eq_zero HQ.out]; simp), List.append_nil]
        exact HR.out), HRW, HBr⟩
      case measure => simp [intOf]; omega
    · have hq0 : (0 : Int) < (q : Int) := by omega
      have e0 : decide ((0 : Int) < (q : Int)) = true := decide_eq_true hq0
      have e1 : decide (0 < q) = true := decide_eq_true (by omega)
      have hkw : w.heap.size ≤ wr.heap.size := HBr.out.size
      go_wp2_with (at_builtin; refine wpList_growP rfl _ _ 84 rfl w.heap.size 3 1 ii _ 8 Try.underlying84 HII.out.1 HII.out.2.1 HII.out.2.2.1 HII.out.2.2.2 rfl Nat.one_pos _ _ _ rfl HRW.out [i64 (k : Int)] _ rfl rfl rfl (by intro u hu; rw [List.mem_singleton] at hu; subst hu; rfl) (by omega) (by omega) hkw ?_; intro v9 w9 h9 g9 f9; obtain ⟨A9, k9, rfl⟩ := row_form h9; have H9 := Lib.hid h9; have HB9 := Lib.hid (HBr.out.grown g9 hkw (fun j hj => (HRW.out.lt j hj).1)); clear h9 g9 f9)
      go_roundw
      case rel => exact ⟨k + 1, R ++ [k], A9, k9, by omega, by go_num, by simp, by simp; omega, Lib.hid (by
        rw [filter_range_next, if_pos (by cases e : gr k with | nil => rw [e] at HQ; exact absurd HQ.out (by simp; omega) | cons a l => rfl), HR.out]), Lib.hid (by have := H9.out; simpa [iN] using this), HB9⟩
      case measure => simp [intOf]; omega
  · obtain rfl : k = n := by omega
    have HW0 := Lib.hid (show SpW U E base B k c S vi w wr (fun i => S (4 * i + 3)) vg gr R (.slice A1 R.length k1) from ⟨by rw [mix_self]; exact HST.out.below HBr.out, HRW.out, HBr.out.mono hb⟩)
    have HP0 := Lib.hid (show Spr E (fun i => S (4 * i)) (fun i => S (4 * i + 1)) (GG k S) k (fun i => S (4 * i + 3)) gr R 0 [] [] from Spr.start (fun i hi => funext fun x => by unfold GG; rw [decide_eq_true hi]; rfl) (fun i hi => ⟨(HG.out i hi).1, fun x => by unfold GG; rw [decide_eq_true hi]; exact (HG.out i hi).2 x⟩) HE.out (fun i hi hne => by
      rw [HR.out, List.mem_filter]
      exact ⟨List.mem_range.2 hi, by cases e : gr i with | nil => exact absurd e hne | cons a l => rfl⟩) (fun i hi => by rw [HR.out] at hi; exact List.mem_range.1 (List.mem_filter.1 hi).1))
    have hM : 2 * mu U k (fun i => S (4 * i + 3)) + R.length ≤ 2 * (k * U.length) + k := by
      have := mu_top U k (fun i => S (4 * i + 3))
      omega
    clear HR HRW HBr HG HGL HN0
    go_wp2_with fail
    go_loopg [2] (2 * (k * U.length) + k) (fun g rv wr2 => ∃ (L : Nat → Wd → Bool) (vg : Nat → Value) (gr : Nat → List Wd) (R : List Nat) (A1 : Option Addr) (k1 : Nat), rv = .slice A1 R.length k1 ∧ g ≤ 2 * (k * U.length) + k ∧ 2 * mu U k L + R.length ≤ g ∧ Hid (SpW U E base B k c S vi w wr2 L vg gr R (.slice A1 R.length k1)) ∧ Hid (Spr E (fun i => S (4 * i)) (fun i => S (4 * i + 1)) (GG k S) k L gr R 0 [] []))
    case atStart => exact ⟨_, vg, gr, R, A1, k1, rfl, Nat.le_refl _, hM, HW0, HP0⟩
    case round =>
    clear hM HW0 HP0 hRl
    obtain ⟨L, vg, gr, R, A1, k1, rfl, hgk, hgm, HW, HP⟩ := hrel
    rcases List.eq_nil_or_concat R with rfl | ⟨R', a, rfl⟩
    · have HF := Lib.hid (HP.out.fin HE.out (fun i x hx => by unfold GG at hx; rw [Bool.and_eq_true] at hx; exact of_decide_eq_true hx.1))
      go_wp2_with fail
      go_end0
      exact ⟨rfl, ⟨L, vg, gr, HW.out.st, HF.out⟩, HW.out.bel⟩
    · rw [List.concat_eq_append] at HW HP hgm
      have hrow := HW.out.row
      rw [List.length_append, show iN (R' ++ [a]) = iN R' ++ [i64 (a : Int)] by simp [iN]] at hrow
      simp only [List.length_singleton] at hrow
      obtain ⟨gs, c9, e9, hgs, hgl9, hcap9, n9, hrow2⟩ := pop_own hrow
      have hla : (R'.concat a).length = R'.length + 1 := by simp
      have hla2 : (R' ++ [a]).length = R'.length + 1 := by simp
      rw [hla2] at hgm
      rw [hla]
      cases e9
      have ha : a < k := HP.out.lt a (by simp)
      have hst := HW.out.st
      have hwz : base ≤ wr.heap.size := Nat.le_trans hb HW.out.bel.size
      have hgrl : (gr a).length ≤ 1000000000000 := Nat.le_trans (sub_len (HP.out.nd a ha) fun x hx => HW.out.grU ha (HP.out.grL a ha x hx)) hU.len
      have hR9 : R'.length ≤ 2000000000000 + 1000000000 := by have := HNU.out; omega
      have HQ1 := Lib.hid (tell_k hU hst hwz ha (fun x hx => HW.out.grU ha (HP.out.grL a ha x hx)) hgrl)
      have n1 := (hst.cell ha (show 1 < 7 by omega)).trans (congrArg some (show FF k c vi vg a 1 = vi (2 * a + 1) from rfl))
      have HRW2 := Lib.hid hrow2
      have HPP := Lib.hid HP.out.pop
      clear hrow hst hla hla2 hgrl hrow2
      go_wp2_with fail
      refine HQ1.out.mono ?_
      rintro e w5 ⟨v5, r5, rfl, hr5, ho5, hst5, hb5, hki5⟩
      rw [mix_ne _ _ (by omega)] at hr5
      obtain ⟨A5, k5, rfl⟩ := row_form ho5
      have HW5 := Lib.hid (show SpW U E base B k c S vi w w5 L (upd vg a (.slice none 0 0)) (upd gr a []) R' (.slice (some ⟨gs, 0, none⟩) R'.length k1) from ⟨hst5, hki5 _ _ _ _ HRW2.out, HW.out.bel.trans hb5⟩)
      have HP5 := Lib.hid (show Spr E (fun i => S (4 * i)) (fun i => S (4 * i + 1)) (GG k S) k L (upd gr a []) R' a r5 (srcs E a) from by rw [hr5]; exact HPP.out)
      have HO5 := Lib.hid (ownsRow_base_a ho5 hwz)
      have HAP5 := Lib.hid (show ∀ j kk, j < k → (upd vg a (.slice none 0 0) j).ownBlock = some kk → (Value.slice A5 r5.length k5).ownBlock ≠ some kk from fun j kk hj hv he => by
        by_cases e : j = a
        · subst e; rw [upd_at] at hv; cases hv
        · rw [upd_ne _ _ e] at hv
          have h1 := ((HW.out.st.rg.own j hj).lt kk hv).2
          have h2 := (ho5.lt kk he).1
          omega)
      have HBU := Lib.hid (show ∀ x ∈ r5, x ∈ U from fun x hx => by rw [hr5] at hx; exact HW.out.grU ha (HP.out.grL a ha x (List.mem_filter.1 hx).1))
      have HBL := Lib.hid (show r5.length ≤ 1000000000000 from by
        have h1 := List.length_filter_le (fun x => !S (4 * a) x) (gr a)
        rw [hr5]
        exact Nat.le_trans h1 (Nat.le_trans (sub_len (HP.out.nd a ha) fun x hx => HW.out.grU ha (HP.out.grL a ha x hx)) hU.len))
      have n1 := (hst5.cell ha (show 1 < 7 by omega)).trans (congrArg some (show FF k c vi (upd vg a (.slice none 0 0)) a 1 = vi (2 * a + 1) from rfl))
      obtain ⟨F, hF⟩ : ∃ F, srcs E a = F := ⟨_, rfl⟩
      have hFl : F.length ≤ 1000000000000 := by
        rw [← hF]
        unfold srcs
        rw [List.length_map]
        exact Nat.le_trans (List.length_filter_le _ _) HEL.out
      have hri := hst5.ri.own (2 * a + 1) (by omega)
      rw [LI_odd, hF, List.length_map, List.map_map] at hri
      obtain ⟨A6, k6, hv6⟩ := row_form hri
      rw [hv6] at n1
      have HV6 := Lib.hid hv6
      have HFF := Lib.hid hF
      rw [hF] at HP5
      have hgm5 : 2 * mu U k L + R'.length + 1 ≤ gk := by omega
      have HP5' := Lib.hid (show Spr E (fun i => S (4 * i)) (fun i => S (4 * i + 1)) (GG k S) k L (upd gr a []) R' a r5 (F.drop 0) from HP5.out)
      clear hr5 ho5 hst5 hb5 hki5 hri hv6 hF HPP HQ1 HP5 HW HP HRW2
      go_wp2_with fail
      go_loopw [2, 49] (fun rv iv wr3 => ∃ (j : Nat) (L : Nat → Wd → Bool) (vg : Nat → Value) (gr : Nat → List Wd) (R : List Nat) (A1 : Option Addr) (k1 : Nat), j ≤ F.length ∧ iv = .int .i64 j ∧ rv = .slice A1 R.length k1 ∧ 2 * mu U k L + R.length + 1 ≤ gk ∧ Hid (SpW U E base B k c S vi w wr3 L vg gr R (.slice A1 R.length k1)) ∧ Hid (Spr E (fun i => S (4 * i)) (fun i => S (4 * i + 1)) (GG k S) k L gr R a r5 (F.drop j)) ∧ Hid (wr3.ownsRow base 9 1 (.slice A5 r5.length k5) r5.length (r5.map str)) ∧ Hid (∀ j kk, j < k → (vg j).ownBlock = some kk → (Value.slice A5 r5.length k5).ownBlock ≠ some kk)) (fun _ iv _ => F.length - (intOf iv).toNat)
      case atStart => exact ⟨0, L, _, _, R', _, k1, Nat.zero_le _, rfl, rfl, hgm5, HW5, HP5', HO5, HAP5⟩
      case round =>
      clear n1 hgm5 HW5 HP5' HO5 HAP5 hgm n9
      obtain ⟨j, L, vg, gr, R, A1, k1, hj, rfl, rfl, hgm, HW, HP, HO, HAP⟩ := hrel
      by_cases hlt2 : j < F.length
      · obtain ⟨i, hi⟩ : ∃ i, F[j]? = some i := ⟨_, List.getElem?_eq_getElem hlt2⟩
        have hie : (i, a) ∈ E := mem_srcs.1 (by rw [HFF.out]; exact List.mem_of_getElem? hi)
        have hik : i < k := (HE.out _ hie).1
        have hst := HW.out.st
        have hri := hst.ri.own (2 * a + 1) (by omega)
        rw [LI_odd, HFF.out, List.length_map, List.map_map, HV6.out] at hri
        obtain ⟨b6, rfl, hb6, hb66⟩ := own_addr hri hlt2
        have n0 := own_at hri (show (F.map _)[j]? = some (i64 (i : Int)) by rw [List.getElem?_map, hi]; rfl)
        have n6 := (hst.cell hik (show 6 < 7 by omega)).trans (congrArg some (show FF k c vi vg i 6 = vg i from rfl))
        obtain ⟨A7, k7, hv7⟩ := row_form (hst.rg.own i hik)
        obtain ⟨q, hq⟩ : ∃ q, (gr i).length = q := ⟨_, rfl⟩
        rw [hq] at hv7
        rw [hv7] at n6
        have hgrl : (gr i).length ≤ 1000000000000 := Nat.le_trans (sub_len (HP.out.nd i hik) fun x hx => HW.out.grU hik (HP.out.grL i hik x hx)) hU.len
        have hwz : base ≤ wr.heap.size := Nat.le_trans hb HW.out.bel.size
        have HQ2 := Lib.hid (need_any hU hst hwz hik hik hgrl A5 k5 r5 HO.out HBU.out HBL.out HAP.out)
        have HDR := Lib.hid (show F.drop j = i :: F.drop (j + 1) from by
          obtain ⟨h1, h2⟩ := List.getElem?_eq_some_iff.1 hi
          rw [List.drop_eq_getElem_cons h1, h2])
        have HQQ := Lib.hid hq
        have HIE := Lib.hid hie
        have hR9 : R.length ≤ 2000000000000 + 1000000000 := by have := HNU.out; omega
        have hq9 : q ≤ 1000000000000 := by omega
        clear hst hri hv7 hq hi hie hgrl
        go_wp2_with fail
        refine HQ2.out.mono ?_
        rintro e w7 ⟨rfl, L', add, v7, hN, hst7, ho7, hap7, hb7, hki7⟩
        rw [mix_upd] at hst7
        rw [mix_ne _ _ (by omega), mix_at, List.take_length] at hN
        have n6 := (hst7.cell hik (show 6 < 7 by omega)).trans (congrArg some (show FF k c vi (upd vg i v7) i 6 = v7 from upd_at _ _ _))
        have hrg7 := hst7.rg.own i hik
        rw [upd_at, upd_at] at hrg7
        obtain ⟨A8, k8, rfl⟩ := row_form hrg7
        rw [List.length_append, HQQ.out] at n6
        have hal : add.length ≤ 1000000000000 := Nat.le_trans (add_le hN) HBL.out
        obtain ⟨z, hz⟩ : ∃ z, add.length = z := ⟨_, rfl⟩
        rw [hz] at n6 hal
        have HMU := Lib.hid (mu_need (n := k) hik hN HBU.out)
        have HNN := Lib.hid hN
        have HZZ := Lib.hid hz
        have HW7 := Lib.hid (show SpW U E base B k c S vi w w7 (upd L i L') (upd vg i _) (upd gr i (gr i ++ add)) R (.slice A1 R.length k1) from ⟨hst7, hki7 _ _ _ _ HW.out.row, HW.out.bel.trans hb7⟩)
        have HO7 := Lib.hid ho7
        have HAP7 := Lib.hid hap7
        clear hN hst7 ho7 hap7 hb7 hki7 hrg7 hz HQ2
        have hgo : q = 0 ∧ 0 < z ∨ ¬ (q = 0 ∧ 0 < z) := Classical.em _
        rcases hgo with ⟨rfl, hz0⟩ | hgo
        · have hz1 : (0 : Int) < (z : Int) := by omega
          have hwq : w.heap.size ≤ w7.heap.size := HW7.out.bel.size
          have ez : decide ((0 : Int) < (z : Int)) = true := decide_eq_true hz1
          have ez2 : decide (0 < z) = true := decide_eq_true hz0
          simp only [Nat.zero_add] at n6
          go_wp2_with (at_builtin; refine wpList_growP rfl _ _ 84 rfl w.heap.size 3 1 ii _ 8 Try.underlying84 HII.out.1 HII.out.2.1 HII.out.2.2.1 HII.out.2.2.2 rfl Nat.one_pos _ _ _ rfl HW7.out.row [i64 (i : Int)] _ rfl rfl rfl (by intro u hu; rw [List.mem_singleton] at hu; subst hu; rfl) (by omega) (by omega) hwq ?_; intro v9 w9 h9 g9 f9; obtain ⟨A9, k9, rfl⟩ := row_form h9; have H9 := Lib.hid h9; have G9 := Lib.hid g9; clear h9 g9 f9)
          go_roundw
          case rel =>
            refine ⟨j + 1, upd L i L', _, upd gr i (gr i ++ add), R ++ [i], A9, k9, by omega, by go_num, by simp, ?_, Lib.hid ⟨?_, ?_, ?_⟩, Lib.hid ?_, ?_, HAP7⟩
            · have h1 := HMU.out
              rw [if_neg (by intro e; rw [e] at HZZ; have := HZZ.out; simp at this; omega)] at h1
              simp only [List.length_append, List.length_singleton]
              omega
            · exact HW7.out.st.rowI HW7.out.row G9.out fun x b hx hv he => by
                have h1 := HVI.out x b hx hv
                have h2 := (HW7.out.row.lt b he).1
                omega
            · have := H9.out
              simpa [iN] using this
            · exact HW7.out.bel.grown G9.out (by omega) (fun b e => by have := (HW7.out.row.lt b e).1; omega)
            · have hp := HP.out
              rw [HDR.out] at hp
              exact hp.need hik HIE.out HNN.out (fun x hx => by simp [hx]) (fun x hx => by
                rcases List.mem_append.1 hx with q | q
                · exact hp.lt x q
                · rw [List.mem_singleton.1 q]; exact hik) (fun _ _ => by simp)
            · exact Lib.hid (row_others HO7.out G9.out (fun b e => notT_row HW7.out.row e (by decide)))
          case measure => simp [intOf]; omega
        · have hcase : (q = 0 ∧ z = 0) ∨ (0 < q) := by omega
          have HEND := Lib.hid (show ∃ (j' : Nat) (L : Nat → Wd → Bool) (vg : Nat → Value) (gr : Nat → List Wd), j' = j + 1 ∧ 2 * mu U k L + R.length + 1 ≤ gk ∧ Hid (SpW U E base B k c S vi w w7 L vg gr R (.slice A1 R.length k1)) ∧ Hid (Spr E (fun i => S (4 * i)) (fun i => S (4 * i + 1)) (GG k S) k L gr R a r5 (F.drop j')) ∧ Hid (w7.ownsRow base 9 1 (.slice A5 r5.length k5) r5.length (r5.map str)) ∧ Hid (∀ j kk, j < k → (vg j).ownBlock = some kk → (Value.slice A5 r5.length k5).ownBlock ≠ some kk) from by
            refine ⟨j + 1, upd L i L', _, upd gr i (gr i ++ add), rfl, ?_, HW7, Lib.hid ?_, HO7, HAP7⟩
            · have h1 := HMU.out
              split at h1 <;> omega
            · have hp := HP.out
              rw [HDR.out] at hp
              refine hp.need hik HIE.out HNN.out (fun x hx => hx) hp.lt (fun h1 h2 => ?_)
              exfalso
              apply hgo
              refine ⟨by rw [← HQQ.out, h1]; rfl, ?_⟩
              rw [← HZZ.out]
              exact List.length_pos_iff.2 h2)
          obtain ⟨j', L9, vg9, gr9, rfl, hgm9, HW9, HP9, HO9, HAP9⟩ := HEND.out
          clear HEND HW7 HP HO7 HAP7 HW HMU HNN HDR hgm
          rcases hcase with ⟨rfl, rfl⟩ | hq0
          · simp only [Nat.zero_add] at n6
            go_wp2_with fail
            go_roundw
            case rel => exact ⟨j + 1, L9, vg9, gr9, R, A1, k1, by omega, by go_num, rfl, hgm9, HW9, HP9, HO9, HAP9⟩
            case measure => simp [intOf]; omega
          · have hq1 : ¬ q = 0 := by omega
            have eq1 : ((q : Int) == 0) = false := by simp; omega
            have eq2 : (q == 0) = false := by simp; omega
            have eq3 : decide (q = 0) = false := decide_eq_false hq1
            go_wp2_with fail
            go_roundw
            case rel => exact ⟨j + 1, L9, vg9, gr9, R, A1, k1, by omega, by go_num, rfl, hgm9, HW9, HP9, HO9, HAP9⟩
            case measure => simp [intOf]; omega
      · obtain rfl : j = F.length := by omega
        rw [List.drop_length] at HP
        have HPD := Lib.hid HP.out.done
        go_wp2_with fail
        go_roundg (2 * mu U k L + R.length)
        case measure => omega
        case rel => exact ⟨L, vg, gr, R, A1, k1, rfl, by omega, Nat.le_refl _, HW, HPD⟩
end Go.Proofs.Ytaeklfljibjpiaa.Lv12
