/-
  Layer 10: package dom walked: Dominates and Kids.
-/
import Derived.Test.YtiohngbmddfgfaaDomR
import Derived.Test.YtiohngbmddfgfaaDomK
namespace Go.Proofs.Ytiohngbmddfgfaa.Dm10
open Go.RowKit Api Mem Fl9

/-- what Dominates tells with m goings on left. -/
def dmV (near : List Int) (a : Int) : Nat → Int → Bool
  | 0, _ => false
  | m + 1, b => if 0 ≤ b ∧ b < (near.length : Int) then (if a = b then true else dmV near a m (near.getD b.toNat 0)) else false
theorem dm_below {near : List Int} {a : Int} {m : Nat} {b : Int} (h : b < 0) : dmV near a m b = false := by
  cases m with
  | zero => rfl
  | succ m => rw [dmV, if_neg (by omega)]
theorem dm_iff {g : List (List Int)} {near : List Int} {a : Int} (hf : Fix g near) (hs : ∀ b c : Nat, near[b]? = some (c : Int) → Come g b ∧ b ≠ 0 ∧ Come g c ∧ pos g c < pos g b) : ∀ (m b : Nat), Come g b → pos g b < m → (dmV near a m (b : Int) = true ↔ ∃ k : Nat, a = (k : Int) ∧ Anc near k b)
  | 0, b, _, h => by omega
  | m + 1, b, hb, h => by
    have hbl : b < near.length := by rw [hf.len9]; exact hb.last.1
    rw [dmV, if_pos ⟨by omega, by omega⟩]
    by_cases e : a = (b : Int)
    · rw [if_pos e]
      exact ⟨fun _ => ⟨b, e, .refl⟩, fun _ => rfl⟩
    · rw [if_neg e, Int.toNat_natCast]
      obtain ⟨y, hy⟩ : ∃ y, near[b]? = some y := ⟨_, List.getElem?_eq_getElem hbl⟩
      have e2 : near.getD b 0 = y := by rw [List.getD_eq_getElem?_getD, hy]; rfl
      rw [e2]
      by_cases hb0 : b = 0
      · subst hb0
        rw [hf.top9 0 hb.last.1 (.inl rfl)] at hy
        simp only [Option.some.injEq] at hy
        rw [← hy, dm_below (by omega)]
        refine ⟨fun h => by simp at h, ?_⟩
        rintro ⟨k, rfl, hk⟩
        cases hk with
        | refl => exact absurd rfl e
        | up e3 _ => exact absurd rfl (hs 0 _ e3).2.1
      · obtain ⟨c, hc, _⟩ := hf.up9 b hb0 hb
        rw [hc] at hy
        simp only [Option.some.injEq] at hy
        subst hy
        obtain ⟨_, _, h3, h4⟩ := hs b c hc
        rw [dm_iff hf hs m c h3 (by omega)]
        constructor
        · rintro ⟨k, h5, h6⟩
          exact ⟨k, h5, .up hc h6⟩
        · rintro ⟨k, h5, h6⟩
          exact ⟨k, h5, anc_next h6 (fun e3 => e (by rw [h5, e3])) hc⟩
/-- Kids' rows behind k points. -/
def kj (near : List Int) (k : Nat) : List (List Int) := (List.range near.length).map (kv near k)
theorem kj_len (near : List Int) (k : Nat) : (kj near k).length = near.length := by simp [kj]
theorem kj_at {near : List Int} {k i : Nat} (h : i < near.length) : (kj near k)[i]? = some (kv near k i) := by
  unfold kj
  rw [List.getElem?_map, List.getElem?_range h]; rfl
theorem kj_zero (near : List Int) : kj near 0 = List.replicate near.length [] := by
  apply List.ext_getElem?
  intro i
  by_cases h : i < near.length
  · rw [kj_at h, List.getElem?_replicate, if_pos h]; rfl
  · rw [List.getElem?_eq_none (by rw [kj_len]; omega), List.getElem?_eq_none (by simp; omega)]
theorem kj_skip {near : List Int} {k : Nat} {x : Int} (hx : near[k]? = some x) (h : ¬ (0 ≤ x ∧ x < (near.length : Int))) : kj near (k + 1) = kj near k := by
  unfold kj
  apply List.map_congr_left
  intro i hi
  rw [List.mem_range] at hi
  rw [kv_step hx, if_neg (by omega), List.append_nil]
theorem kj_put {near : List Int} {k q : Nat} (hx : near[k]? = some (q : Int)) (hq : q < near.length) : kj near (k + 1) = (kj near k).set q (kv near k q ++ [(k : Int)]) := by
  have _ := hq
  have _ := hq
  apply List.ext_getElem?
  intro i
  by_cases hi : i < near.length
  · rw [kj_at hi, kv_step hx]
    by_cases e : q = i
    · subst e
      rw [List.getElem?_set_self (by rw [kj_len]; exact hi), if_pos rfl]
    · rw [List.getElem?_set_ne e, kj_at hi, if_neg (by omega), List.append_nil]
  · rw [List.getElem?_eq_none (by rw [kj_len]; omega), List.getElem?_eq_none (by rw [List.length_set, kj_len]; omega)]
set_option maxRecDepth 100000 in
set_option maxHeartbeats 8000000 in
theorem kids_any (lo hi : Nat) (w : World) (v : Value) (g : List Int) (hg : Ints lo hi w v g) (hh : hi ≤ w.heap.size) (hn : g.length ≤ 1000) :
    Calls Try.prog 29 #[v] w (GP (kidsV g) w) := by
  obtain ⟨A1, k1, rfl⟩ := Row.form hg
  have hmm := fun (w : World) => run_row9 (P := Try.prog) (t := 22) Try.underlying22 info_row9 rfl (by decide) g.length (by omega) w
  obtain ⟨ii, hi1, hi2, hi3, hi4⟩ := info_in9
  have HII : Hid (Try.prog.info? 3 = some ii ∧ ii.zero = some (.int .i64 0) ∧ ii.size = 1 ∧ ii.bytes = 8) := Lib.hid ⟨hi1, hi2, hi3, hi4⟩
  obtain ⟨W, hW⟩ : ∃ W, w.alloc (.cells (List.replicate g.length (.slice none 0 0)).toArray 31) = W := ⟨_, rfl⟩
  have HO := Lib.hid (show GOwn W w.heap.size (.slice (some ⟨w.heap.size, 0, none⟩) g.length g.length) (List.replicate g.length []) by rw [← hW]; exact gown_made g.length w.heap.size rfl hn)
  have HB := Lib.hid (show Below w.heap.size w W by rw [← hW]; exact (Below.refl _ _).alloc (Nat.le_refl _) _)
  have HG := Lib.hid hg
  have HW := Lib.hid (show w.alloc (.cells (Array.replicate g.length (.slice none 0 0)) 31) = W by rw [← hW]; simp)
  clear hg hW hi1 hi2 hi3 hi4
  go_enter Try.func29, Try.ntmps29
  go_wp2_with fail
  rw [HW.out]
  go_loopw [11] (fun i wr => ∃ k : Nat, k ≤ g.length ∧ i = .int .i64 k ∧ Hid (GOwn wr w.heap.size (.slice (some ⟨w.heap.size, 0, none⟩) g.length g.length) (kj g k)) ∧ Hid (Below w.heap.size w wr)) (fun i _ => g.length - (intOf i).toNat)
  case atStart => exact ⟨0, Nat.zero_le _, rfl, by rw [kj_zero]; exact HO, HB⟩
  case round =>
  obtain ⟨k, hk, rfl, HGO, HBr⟩ := hrel
  by_cases hlt : k < g.length
  · obtain ⟨x, hx⟩ : ∃ x, g[k]? = some x := ⟨_, List.getElem?_eq_getElem hlt⟩
    obtain ⟨b1, o1, rfl⟩ := addr_of9 HG.out (by omega)
    obtain ⟨cs, _, rfl, n1⟩ := cell_of HG.out hx (HBr.out.mono hh)
    have m1 := n1 _ rfl
    have QP := Lib.hid (point10_any wr (some ⟨b1, o1, none⟩) g.length k1 (by omega) x)
    clear n1
    by_cases hp : 0 ≤ x ∧ x < (g.length : Int)
    · obtain ⟨q, rfl⟩ : ∃ q : Nat, x = (q : Int) := ⟨x.toNat, by omega⟩
      have hq : q < g.length := by omega
      rw [decide_eq_true hp] at QP
      have HLP := Lib.hid (kj_put hx hq)
      clear hp hx
      obtain ⟨g0, cap, u, rest, vs, e9, hg1, hg2, hg3, hg4, hvl, hvu, hg5, hg6⟩ := HGO.out.pick (kj_at hq)
      simp only [Value.slice.injEq, Option.some.injEq, Addr.mk.injEq, and_true, true_and, kj_len] at e9
      obtain ⟨rfl, rfl⟩ := e9
      obtain ⟨Au, cu, e8⟩ := any9 (v := u) hg5.head
      have e8 : u = .slice Au (kv g k q).length cu := e8
      subst e8
      have HAP := Lib.hid hg5
      have HVL := Lib.hid (And.intro (hvl.trans (kj_len _ _)) hvu)
      clear hvl hvu
      have HPUT := Lib.hid hg6
      have hpl := kv_len g k q
      have hbs := HBr.out.size
      clear hg5 hg6
      go_wp2_with fail
      refine QP.out.mono ?_
      rintro e w2 ⟨rfl, rfl⟩
      go_wp2_with (at_builtin; refine Hold.wpList_grow (R := outR _ vs :: rest) rfl _ _ 31 rfl w.heap.size (innR (.slice Au (kv g k q).length cu) (kv g k q)) ii _ 8 Try.underlying31 HII.out.1 HII.out.2.1 HII.out.2.2.1 HII.out.2.2.2 rfl Nat.one_pos rfl HAP.out [i64 (k : Int)] _ rfl rfl rfl (by intro u hu; rw [List.mem_singleton] at hu; subst hu; rfl) (by show (kv g k q).length + 1 ≤ _; omega) (by show ((kv g k q).length + 1) * 8 ≤ _; omega) hbs ?_; intro v7 w7 hA7 hB7; obtain ⟨A7, c7, e7⟩ := hA7.head.form; simp only at e7; subst e7; have HA7 := Lib.hid (snoc9 (l := kv g k q) hA7); have HB7 := Lib.hid (HBr.out.trans hB7); obtain ⟨t7, s7, c9⟩ := thaw9 (HA7.out.tail.head : w7.ownsRow _ _ _ _ _ _) q; replace c9 := (c9 (by show q < vs.length * 1; rw [HVL.out.1]; omega)).trans HVL.out.2; clear hA7 hB7)
      have HGO3 := Lib.hid (HPUT.out _ _ _ HA7.out)
      rw [← HLP.out] at HGO3
      have HB8 := Lib.hid (HB7.out.setCell (p := ⟨w.heap.size, q, none⟩) (Nat.le_refl _) (.slice A7 ((kv g k q).length + 1) c7))
      go_roundw
      case rel => exact ⟨k + 1, by omega, by go_num, HGO3, HB8⟩
      case measure => simp [intOf]; omega
    · rw [decide_eq_false hp] at QP
      have HGO2 := HGO
      rw [← kj_skip hx hp] at HGO2
      clear hp hx
      go_wp2_with fail
      refine QP.out.mono ?_
      rintro e w2 ⟨rfl, rfl⟩
      go_wp2_with fail
      go_roundw
      case rel => exact ⟨k + 1, by omega, by go_num, HGO2, HBr⟩
      case measure => simp [intOf]; omega
  · have hke : k = g.length := by omega
    subst hke
    go_wp2_with fail
    go_ret
    exact ⟨_, rfl, HGO.out, HBr.out⟩
end Go.Proofs.Ytiohngbmddfgfaa.Dm10
