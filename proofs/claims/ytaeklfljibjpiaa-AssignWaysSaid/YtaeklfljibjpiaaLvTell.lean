/-
  Layer 12: what a block tells, and what it is told.
-/
import Derived.Test.YtaeklfljibjpiaaLvMem
namespace Go.Proofs.Ytaeklfljibjpiaa.Lv12
open Go.RowKit Api Mem Sh8 Go.Maps

theorem info_str : (Try.prog.info? 9).map (fun i => (i.zero, i.size, i.bytes)) = some (some (.string ⟨#[]⟩), 1, 16) := by kernel_rfl
theorem filter_next {α : Type} {p : α → Bool} {l : List α} {k : Nat} {x : α} (h : l[k]? = some x) : (l.take (k + 1)).filter p = (l.take k).filter p ++ (if p x = true then [x] else []) := by
  rw [take_at h, List.filter_append]
  congr 1
  by_cases e : p x = true <;> simp [e]
/-- rows of numbers stay as they are. -/
def KeepI (w w' : World) : Prop := ∀ (b : Nat) (v : Value) (n : Nat) (xs : List Value), w.ownsRow b 3 1 v n xs → w'.ownsRow b 3 1 v n xs
theorem KeepI.refl (w : World) : KeepI w w := fun _ _ _ _ h => h
theorem KeepI.trans {a b c : World} (h : KeepI a b) (k : KeepI b c) : KeepI a c := fun q v n xs o => k q v n xs (h q v n xs o)
theorem KeepI.below {w w' : World} (h : Below w.heap.size w w') : KeepI w w' := fun _ _ _ _ o => own_below o h
theorem KeepI.grown {w w' : World} {row : Option Nat} (hg : w.grownBy w' row) (hn : ∀ b, row = some b → NotT w b 3) : KeepI w w' := fun _ _ _ _ o => row_others o hg hn
set_option maxRecDepth 100000 in
set_option maxHeartbeats 8000000 in
theorem tell_k {U : List Wd} (hU : UOk U) {w : World} {base B n m : Nat} {c : Nat → Nat} {S : Nat → Wd → Bool} {vi : Nat → Value} {li : Nat → List Int} {vg : Nat → Value} {gr : Nat → List Wd} (h : St U w base B n m c S vi li vg gr) (hb : base ≤ w.heap.size) {i : Nat} (hi : i < n) (hgU : ∀ x ∈ gr i, x ∈ U) (hgl : (gr i).length ≤ 1000000000000) :
    Calls Try.prog 77 #[.pointer (some ⟨B, i * 7, none⟩)] w fun e w' => ∃ v r, e = .returned v ∧ r = (gr i).filter (fun x => !S (4 * i) x) ∧ w'.ownsRow w.heap.size 9 1 v r.length (r.map str) ∧ St U w' base B n m c S vi li (upd vg i (.slice none 0 0)) (upd gr i []) ∧ Below base w w' ∧ KeepI w w' := by
  obtain ⟨is, his, hz0, hz1, hz2⟩ := info_parts info_str
  have HIS := Lib.hid (show _ ∧ _ ∧ _ ∧ _ from ⟨his, hz0, hz1, hz2⟩)
  clear his hz0 hz1 hz2
  have hOk : OkM n m (4 * i) := ⟨by omega, fun h => by omega⟩
  have HOK := Lib.hid hOk
  have HGU := Lib.hid hgU
  have n2 := (h.cell hi (show 2 < 7 by omega)).trans (congrArg some (show FF m c vi vg i 2 = .map (some (c (4 * i))) from rfl))
  have n6 := (h.cell hi (show 6 < 7 by omega)).trans (congrArg some (show FF m c vi vg i 6 = vg i from rfl))
  obtain ⟨A, k0, hv⟩ := row_form (h.rg.own i hi)
  rw [hv] at n6
  have HV := Lib.hid hv
  have HST := Lib.hid h
  clear h hv hgU hOk
  have HN0 := Lib.hid (show w.ownsRow w.heap.size 9 1 (.slice none 0 0) 0 [] from ⟨by simp, .inl ⟨rfl, rfl⟩⟩)
  go_enter Try.func77, Try.ntmps77
  go_wp2_with fail
  go_loopw [3, 11] (fun nv iv wr => ∃ k : Nat, k ≤ (gr i).length ∧ iv = .int .i64 k ∧ ∃ A1 k1, nv = .slice A1 (((gr i).take k).filter (fun x => !S (4 * i) x)).length k1 ∧ Hid (wr.ownsRow w.heap.size 9 1 (.slice A1 (((gr i).take k).filter (fun x => !S (4 * i) x)).length k1) (((gr i).take k).filter (fun x => !S (4 * i) x)).length ((((gr i).take k).filter (fun x => !S (4 * i) x)).map str)) ∧ Hid (Below w.heap.size w wr)) (fun _ iv _ => (gr i).length - (intOf iv).toNat)
  case atStart => exact ⟨0, Nat.zero_le _, rfl, none, 0, rfl, HN0, Lib.hid (Below.refl _ _)⟩
  case round =>
  clear n2 n6
  obtain ⟨k, hk, rfl, A1, k1, rfl, HO, HBr⟩ := hrel
  have hst := HST.out.below HBr.out
  have n2 := (hst.cell hi (show 2 < 7 by omega)).trans (congrArg some (show FF m c vi vg i 2 = .map (some (c (4 * i))) from rfl))
  by_cases hlt : k < (gr i).length
  · obtain ⟨x, hx⟩ : ∃ x, (gr i)[k]? = some x := ⟨_, List.getElem?_eq_getElem hlt⟩
    have hrow := hst.rg.own i hi
    rw [HV.out] at hrow
    obtain ⟨b, rfl, hbase, hbl⟩ := own_addr hrow hlt
    have n5 := own_at hrow (show ((gr i).map str)[k]? = some (str x) by rw [List.getElem?_map, hx]; rfl)
    have HQ := Lib.hid (has_any (hst.ms.set _ HOK.out) x (hU.nm x (HGU.out x (List.mem_of_getElem? hx))))
    have hnx := filter_next (p := fun x => !S (4 * i) x) hx
    obtain ⟨sb, hsb⟩ : ∃ sb, S (4 * i) x = sb := ⟨_, rfl⟩
    rw [hsb] at HQ
    simp only [hsb] at hnx
    have HNX := Lib.hid hnx
    have hfl : (((gr i).take k).filter (fun x => !S (4 * i) x)).length ≤ 1000000000000 := by
      have := List.length_filter_le (fun x => !S (4 * i) x) ((gr i).take k)
      have h2 := List.length_take_le k (gr i)
      omega
    clear hx hrow hst hsb hnx
    go_wp2_with fail
    refine HQ.out.mono ?_
    rintro e w5 ⟨rfl, g5⟩
    have hb5 : Below wr.heap.size wr w5 := (Below.refl _ _).grown g5 (Nat.le_refl _) (fun j hj => by cases hj)
    have HO5 := Lib.hid (own_below HO.out hb5)
    have HB5 := Lib.hid (HBr.out.trans (hb5.mono HBr.out.size))
    clear g5 hb5
    cases sb with
    | true =>
      go_wp2_with fail
      go_roundw
      case rel => exact ⟨k + 1, by omega, by go_num, A1, k1, by rw [HNX.out]; simp, by rw [HNX.out]; simpa using HO5, HB5⟩
      case measure => simp [intOf]; omega
    | false =>
      go_wp2_with (at_builtin; refine wpList_growP rfl _ _ 31 rfl w.heap.size 9 1 is _ 16 Try.underlying31 HIS.out.1 HIS.out.2.1 HIS.out.2.2.1 HIS.out.2.2.2 rfl Nat.one_pos _ _ _ rfl HO5.out [str x] _ rfl rfl rfl (by intro u hu; rw [List.mem_singleton] at hu; subst hu; rfl) (by omega) (by omega) HB5.out.size ?_; intro v6 w6 h6 g6 f6; obtain ⟨A6, k6, rfl⟩ := row_form h6; have HO6 := Lib.hid h6; have HB6 := Lib.hid (HB5.out.grown g6 HB5.out.size (fun j hj => (HO5.out.lt j hj).1)); clear h6 g6 f6)
      go_roundw
      case rel =>
        refine ⟨k + 1, by omega, by go_num, A6, k6, by rw [HNX.out]; simp, ?_, HB6⟩
        refine Lib.hid ?_
        have h := HO6.out
        rw [HNX.out]
        simpa using h
      case measure => simp [intOf]; omega
  · obtain rfl : k = (gr i).length := by omega
    rw [List.take_length] at HO
    rw [List.take_length]
    have hth := hst.out.thaw (i * 7 + 6)
    have n6 := (hst.cell hi (show 6 < 7 by omega)).trans (congrArg some (show FF m c vi vg i 6 = vg i from rfl))
    rw [HV.out] at n6
    have HST2 := Lib.hid hst
    clear hst
    go_wp2_with fail
    go_ret
    have gc := grown_cell wr ⟨B, i * 7 + 6, none⟩ (.slice none 0 0)
    exact ⟨_, _, rfl, rfl, row_other HO.out gc (HST2.out.out.notT (by decide)), HST2.out.clear hi, ((HBr.out.mono hb).grown gc (Nat.le_trans hb HBr.out.size) (fun j hj => by cases hj; exact HST2.out.ob)), (KeepI.below HBr.out).trans (KeepI.grown gc (fun b e => by cases e; exact HST2.out.out.notT (by decide)))⟩
theorem tell_any {U : List Wd} (hU : UOk U) {w : World} {base B n m : Nat} {c : Nat → Nat} {S : Nat → Wd → Bool} {vi : Nat → Value} {li : Nat → List Int} {vg : Nat → Value} {gr : Nat → List Wd} (h : St U w base B n m c S vi li vg gr) (hb : base ≤ w.heap.size) {i : Nat} (hi : i < n) (hgU : ∀ x ∈ gr i, x ∈ U) (hgl : (gr i).length ≤ 1000000000000) :
    Calls Try.prog 77 #[.pointer (some ⟨B, i * 7, none⟩)] w fun e w' => ∃ v r, e = .returned v ∧ r = (gr i).filter (fun x => !S (4 * i) x) ∧ w'.ownsRow w.heap.size 9 1 v r.length (r.map str) ∧ St U w' base B n m c S vi li (upd vg i (.slice none 0 0)) (upd gr i []) ∧ Below base w w' :=
  (tell_k hU h hb hi hgU hgl).mono fun _ _ ⟨v, r, q1, q2, q3, q4, q5, _⟩ => ⟨v, r, q1, q2, q3, q4, q5⟩
end Go.Proofs.Ytaeklfljibjpiaa.Lv12
