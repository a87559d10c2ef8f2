/-
  Layer 10: the document's Kids walked.
-/
import Derived.Test.YtdjggoddpohceaaFlPreds
namespace Go.Proofs.Ytdjggoddpohceaa.Dm10
open Go.RowKit Api Mem Fl9

/-- those below k whose nearest one is i, rising. -/
def kv (near : List Int) (k i : Nat) : List Int := ((List.range k).filter fun p => decide (near[p]? = some (i : Int))).map fun (p : Nat) => (p : Int)
def kidsV (near : List Int) : List (List Int) := (List.range near.length).map (kv near near.length)
theorem kv_step {near : List Int} {k i : Nat} {x : Int} (h : near[k]? = some x) : kv near (k + 1) i = kv near k i ++ if x = (i : Int) then [(k : Int)] else [] := by
  unfold kv
  rw [List.range_succ, List.filter_append, List.map_append]
  congr 1
  by_cases e : x = (i : Int)
  · rw [if_pos e, List.filter_cons_of_pos (by simp [h, e])]; rfl
  · rw [if_neg e, List.filter_cons_of_neg (by simp [h, e])]; rfl
theorem kv_len (near : List Int) (k i : Nat) : (kv near k i).length ≤ k := by
  unfold kv
  rw [List.length_map]
  have := List.length_filter_le (fun p => decide (near[p]? = some (i : Int))) (List.range k)
  rwa [List.length_range] at this
theorem kids_len (near : List Int) : (kidsV near).length = near.length := by simp [kidsV]
theorem kids_at {near : List Int} {i : Nat} (h : i < near.length) : (kidsV near)[i]? = some (kv near near.length i) := by
  unfold kidsV
  rw [List.getElem?_map, List.getElem?_range h]; rfl
theorem kids_take {near : List Int} {k : Nat} (h : k < near.length) : (kidsV near).take (k + 1) = (kidsV near).take k ++ [kv near near.length k] := by
  obtain ⟨h3, h4⟩ := List.getElem?_eq_some_iff.1 (kids_at h)
  rw [List.take_succ_eq_append_getElem h3, h4]
theorem kids_takel {near : List Int} {k : Nat} (h : k ≤ near.length) : ((kidsV near).take k).length = k := by
  rw [List.length_take, kids_len]; omega
set_option maxRecDepth 100000 in
set_option maxHeartbeats 8000000 in
theorem rkids_any (lo hi : Nat) (w : World) (v : Value) (g : List Int) (hg : Ints lo hi w v g) (hh : hi ≤ w.heap.size) (hn : g.length ≤ 1000) :
    Calls Try.prog 16 #[v] w (GP (kidsV g) w) := by
  obtain ⟨A1, k1, rfl⟩ := Row.form hg
  obtain ⟨ii, hi1, hi2, hi3, hi4⟩ := info_in9
  have HII : Hid (Try.prog.info? 3 = some ii ∧ ii.zero = some (.int .i64 0) ∧ ii.size = 1 ∧ ii.bytes = 8) := Lib.hid ⟨hi1, hi2, hi3, hi4⟩
  obtain ⟨ir, hr1, hr2, hr3, hr4⟩ := info_parts info_row9
  have HIR : Hid (Try.prog.info? 25 = some ir ∧ ir.zero = some (.slice none 0 0) ∧ ir.size = 1 ∧ ir.bytes = 24) := Lib.hid ⟨hr1, hr2, hr3, hr4⟩
  have HG := Lib.hid hg
  clear hg hi1 hi2 hi3 hi4 hr1 hr2 hr3 hr4
  go_enter Try.func16, Try.ntmps16
  go_wp2_with fail
  go_loopw [3, 4] (fun vo i wr => ∃ k : Nat, k ≤ g.length ∧ i = .int .i64 k ∧ Hid (GOwn wr w.heap.size vo ((kidsV g).take k)) ∧ Hid (Below w.heap.size w wr)) (fun _ i _ => g.length - (intOf i).toNat)
  case atStart => exact ⟨0, Nat.zero_le _, rfl, Lib.hid ⟨[], rfl, (Hold.Apart.nil w w.heap.size).empty 25 1⟩, Lib.hid (Below.refl _ _)⟩
  case round =>
  obtain ⟨k, hk, rfl, HGO, HBr⟩ := hrel
  by_cases hlt : k < g.length
  · obtain ⟨Ao, co, hvo⟩ := HGO.out.form
    rw [kids_takel hk] at hvo
    subst hvo
    obtain ⟨vs, hvs, hap⟩ := HGO.out
    rw [kids_takel hk] at hvs
    have HVS := Lib.hid hvs
    have HAP := Lib.hid (hap.empty 3 1)
    clear hvs hap HGO
    go_wp2_with fail
    go_loopw [5, 6] (fun vl j wr => ∃ m : Nat, m ≤ g.length ∧ j = .int .i64 m ∧ Hid (Hold.Apart wr w.heap.size (innR vl (kv g m k) :: outR (.slice Ao k co) vs :: inn vs ((kidsV g).take k))) ∧ Hid (Below w.heap.size w wr)) (fun _ j _ => g.length - (intOf j).toNat)
    case atStart => exact ⟨0, Nat.zero_le _, rfl, HAP, HBr⟩
    case round =>
    obtain ⟨m, hm, rfl, HA, HBr⟩ := hrel
    obtain ⟨Al, cl, hvl⟩ := HA.out.head.form
    simp only at hvl
    subst hvl
    have hs6 := HBr.out.size
    by_cases hlt2 : m < g.length
    · obtain ⟨x, hx⟩ : ∃ x, g[m]? = some x := ⟨_, List.getElem?_eq_getElem hlt2⟩
      obtain ⟨b1, o1, rfl⟩ := addr_of9 HG.out (by omega)
      obtain ⟨c1, _, rfl, n1⟩ := cell_of HG.out hx (HBr.out.mono hh)
      have m1 := n1 _ rfl
      have hps := kv_step (i := k) hx
      have hpl := kv_len g m k
      clear n1 hx
      by_cases he : x = (k : Int)
      · have HPS := Lib.hid (show kv g (m + 1) k = kv g m k ++ [(m : Int)] by rw [hps, if_pos he])
        subst he
        clear hps
        go_wp2_with (at_builtin; refine Hold.wpList_grow (R := outR (.slice Ao k co) vs :: inn vs ((kidsV g).take k)) rfl _ _ 25 rfl w.heap.size (innR (.slice Al (kv g m k).length cl) (kv g m k)) ii _ 8 Try.underlying25 HII.out.1 HII.out.2.1 HII.out.2.2.1 HII.out.2.2.2 rfl Nat.one_pos rfl HA.out [i64 (m : Int)] _ rfl rfl rfl (by intro u hu; rw [List.mem_singleton] at hu; subst hu; rfl) (by show (kv g m k).length + 1 ≤ _; omega) (by show ((kv g m k).length + 1) * 8 ≤ _; omega) hs6 ?_; intro v7 w7 hA7 hB7; have HA7 := Lib.hid (snoc9 (l := kv g m k) hA7); have HB7 := Lib.hid (HBr.out.trans hB7); clear hA7 hB7)
        go_roundw
        case rel => exact ⟨m + 1, by omega, by go_num, by rw [HPS.out]; exact HA7, HB7⟩
        case measure => simp [intOf]; omega
      · have HPS := Lib.hid (show kv g (m + 1) k = kv g m k by rw [hps, if_neg he, List.append_nil])
        have t1 : (x == (k : Int)) = false := by simpa using he
        clear hps he
        go_wp2_with fail
        go_roundw
        case rel => exact ⟨m + 1, by omega, by go_num, by rw [HPS.out]; exact HA, HBr⟩
        case measure => simp [intOf]; omega
    · have hme : m = g.length := by omega
      subst hme
      have HA2 := Lib.hid (HA.out.perm (List.Perm.swap _ _ _))
      have hvs := HVS.out
      go_wp2_with (at_builtin; refine Hold.wpList_grow (R := innR (.slice Al (kv g g.length k).length cl) (kv g g.length k) :: inn vs ((kidsV g).take k)) rfl _ _ 22 rfl w.heap.size (outR (.slice Ao k co) vs) ir _ 24 Try.underlying22 HIR.out.1 HIR.out.2.1 HIR.out.2.2.1 HIR.out.2.2.2 rfl Nat.one_pos rfl HA2.out [.slice Al (kv g g.length k).length cl] _ rfl rfl rfl (by intro u hu; rw [List.mem_singleton] at hu; subst hu; rfl) (by show vs.length + 1 ≤ _; omega) (by show (vs.length + 1) * 24 ≤ _; omega) hs6 ?_; intro v7 w7 hA7 hB7; have HG7 := Lib.hid (GOwn.snoc (by rw [hvs, kids_takel hk]) hA7); have HB7 := Lib.hid (HBr.out.trans hB7); clear hA7 hB7)
      rw [← kids_take hlt] at HG7
      go_roundw
      case rel => exact ⟨k + 1, by omega, by go_num, HG7, HB7⟩
      case measure => simp [intOf]; omega
  · have hke : k = g.length := by omega
    subst hke
    rw [List.take_of_length_le (by rw [kids_len]; exact Nat.le_refl _)] at HGO
    go_wp2_with fail
    go_ret
    exact ⟨_, rfl, HGO.out, HBr.out⟩
end Go.Proofs.Ytdjggoddpohceaa.Dm10
