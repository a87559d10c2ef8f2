/-
  Layer 11: package loops' comers: who leads to whom, of what can be come to.
-/
import Derived.Test.YtiohngbmddfgfaaLpGath
import Derived.Test.YtiohngbmddfgfaaFlPreds
namespace Go.Proofs.Ytiohngbmddfgfaa.Lp11
open Go.RowKit Api Mem Fl9 Dm10

/-- the graph where what can't be come to leads nowhere, as far as k. -/
def ledK (g : List (List Int)) (k : Nat) : List (List Int) := (List.range g.length).map fun i => if i < k ∧ (comeV g).getD i false = true then g.getD i [] else []
theorem ledK_at {g : List (List Int)} {k i : Nat} {l : List Int} (h : (ledK g k)[i]? = some l) : i < g.length ∧ l = if i < k ∧ (comeV g).getD i false = true then g.getD i [] else [] := by
  unfold ledK at h
  rw [List.getElem?_map] at h
  obtain ⟨j, hj, e⟩ := Option.map_eq_some_iff.1 h
  have hi := (List.getElem?_eq_some_iff.1 hj).1
  rw [List.getElem?_range (by simpa using hi)] at hj
  cases hj
  exact ⟨by simpa using hi, e.symm⟩
theorem ledK_end (g : List (List Int)) : ledK g g.length = ledV g := by
  unfold ledK ledV
  apply List.map_congr_left
  intro i hi
  rw [List.mem_range] at hi
  simp [hi]
theorem ledK_skip {g : List (List Int)} {k : Nat} (h : (comeV g).getD k false = false) : ledK g (k + 1) = ledK g k := by
  unfold ledK
  apply List.map_congr_left
  intro i _
  by_cases e : i = k
  · subst e; rw [h]; simp
  · have : i < k + 1 ↔ i < k := by omega
    simp only [this]
def LedC (lo hi : Nat) (w : World) (g : List (List Int)) (k : Nat) (cs : List Value) : Prop := cs.length = g.length ∧ ∀ (i : Nat) (l : List Int), (ledK g k)[i]? = some l → ∃ u : Value, cs[i]? = some u ∧ Ints lo hi w u l
theorem ints_nil (lo hi : Nat) (w : World) : Ints lo hi w (.slice none 0 0) [] := ⟨none, 0, 0, 0, 0, rfl, rfl, ⟨by omega, Nat.le_refl _⟩, fun h => absurd h (by omega), fun i x h => by simp at h⟩
theorem LedC.start (lo hi : Nat) (w : World) (g : List (List Int)) : LedC lo hi w g 0 (List.replicate g.length (.slice none 0 0)) := by
  refine ⟨by simp, fun i l h => ?_⟩
  obtain ⟨h1, h2⟩ := ledK_at h
  rw [if_neg (by omega)] at h2
  subst h2
  exact ⟨_, by rw [List.getElem?_replicate, if_pos h1], ints_nil _ _ _⟩
theorem LedC.put {lo hi : Nat} {w : World} {g : List (List Int)} {k : Nat} {cs : List Value} {u : Value} (h : LedC lo hi w g k cs) (hk : k < g.length) (hu : Ints lo hi w u (g.getD k [])) (hc : (comeV g).getD k false = true) : LedC lo hi w g (k + 1) (cs.set k u) := by
  refine ⟨by simp [h.1], fun i l hl => ?_⟩
  obtain ⟨h1, h2⟩ := ledK_at hl
  by_cases e : k = i
  · subst e
    rw [if_pos ⟨by omega, hc⟩] at h2
    subst h2
    exact ⟨u, by rw [List.getElem?_set_self (by rw [h.1]; exact hk)], hu⟩
  · rw [List.getElem?_set_ne e]
    refine h.2 i l ?_
    unfold ledK
    rw [List.getElem?_map, List.getElem?_range h1, h2]
    have : i < k + 1 ↔ i < k := by omega
    simp only [this]
    rfl
theorem LedC.skip {lo hi : Nat} {w : World} {g : List (List Int)} {k : Nat} {cs : List Value} (h : LedC lo hi w g k cs) (hc : (comeV g).getD k false = false) : LedC lo hi w g (k + 1) cs := by
  unfold LedC
  rw [ledK_skip hc]
  exact h
theorem LedC.graph {lo hi hi' b : Nat} {w w' : World} {v : Value} {g : List (List Int)} {cs : List Value} (h : LedC lo hi w g g.length cs) (ho : w'.ownsRow b 31 1 v g.length cs) (hb : Below hi w w') (hh : w'.heap.size ≤ hi') (hhi : hi ≤ hi') (hn : g.length ≤ 1000) : Graph 0 hi' w' v (ledV g) :=
  Hold.Rec.on.row (r := ⟨31, 1, v, g.length, cs⟩) (ys := cs.map fun x => [x]) (Hold.Rec.on.lower (r := ⟨31, 1, v, g.length, cs⟩) ho (Nat.zero_le _)) hh (by show g.length ≤ _; omega) (led_len g).symm (by rw [List.length_map, h.1, led_len]) (by rw [flat_one (fun x => x)]; simp) (by
    intro i c x hc hx
    rw [← ledK_end] at hx
    obtain ⟨u, hu, hi2⟩ := h.2 i x hx
    rw [List.getElem?_map, hu] at hc
    cases hc
    exact ⟨rfl, u, rfl, Row.move hi2 (fun k _ hk => hb.block k hk) (Nat.zero_le _) hhi fun _ _ h => h⟩)
theorem come_at {g : List (List Int)} {k : Nat} {x : Bool} (h : (comeV g)[k]? = some x) : (comeV g).getD k false = x := by rw [List.getD_eq_getElem?_getD, h]; rfl
set_option maxRecDepth 100000 in
set_option maxHeartbeats 8000000 in
theorem comers_any (lo hi : Nat) (w : World) (v : Value) (g : List (List Int)) (hg : Graph lo hi w v g) (hh : hi ≤ w.heap.size) (hn : g.length ≤ 1000) :
    Calls Try.prog 16 #[v] w (GP (fromV g) w) := by
  obtain ⟨A1, k1, rfl⟩ := Row.form hg
  have hmm := fun (w : World) => run_row9 (P := Try.prog) (t := 22) Try.underlying22 info_row9 rfl (by decide) g.length (by omega) w
  obtain ⟨W, hW⟩ : ∃ W, w.alloc (.cells (List.replicate g.length (.slice none 0 0)).toArray 31) = W := ⟨_, rfl⟩
  have HB := Lib.hid (show Below w.heap.size w W by rw [← hW]; exact (Below.refl _ _).alloc (Nat.le_refl _) _)
  have HS := Lib.hid (show W.heap.size = w.heap.size + 1 by rw [← hW]; simp)
  have HO := Lib.hid (show W.ownsRow w.heap.size 31 1 (.slice (some ⟨w.heap.size, 0, none⟩) g.length g.length) g.length (List.replicate g.length (.slice none 0 0)) from row_made9 g.length w.heap.size hW rfl hn)
  have HG := Lib.hid hg
  have HW := Lib.hid (show w.alloc (.cells (Array.replicate g.length (.slice none 0 0)) 31) = W by rw [← hW]; simp)
  have QC := Lib.hid (come_any9 lo hi W _ g (Graph.move (Still.of_below (HB.out.mono hh)) HG.out) (Nat.le_trans hh HB.out.size) hn)
  clear hg hW
  go_enter Try.func16, Try.ntmps16
  go_wp2_with fail
  rw [HW.out]
  refine QC.out.mono ?_
  rintro e w2 ⟨vm, rfl, om, hb2⟩
  obtain ⟨Am, cm, rfl⟩ := any9 om
  have HM := Lib.hid om
  have HAP := Lib.hid (((Dm10.one_apart (r := ⟨31, 1, .slice (some ⟨w.heap.size, 0, none⟩) g.length g.length, g.length, List.replicate g.length (.slice none 0 0)⟩) HO.out).join hb2 (Dm10.one_apart (r := ⟨4, 1, .slice Am g.length cm, g.length, bC (comeV g)⟩) om) (by have := HS.out; omega)).perm (List.Perm.swap _ _ _))
  have HB2 := Lib.hid (HB.out.trans (hb2.mono HB.out.size))
  have HC0 := Lib.hid (LedC.start lo hi w g)
  have hcl := come_len g
  clear om hb2
  go_wp2_with fail
  go_loopw [12] (fun kv wr => ∃ (k : Nat) (cs : List Value), k ≤ g.length ∧ kv = .int .i64 k ∧ Hid (LedC lo hi w g k cs) ∧ Hid (Hold.Apart wr w.heap.size [⟨31, 1, .slice (some ⟨w.heap.size, 0, none⟩) g.length g.length, g.length, cs⟩, ⟨4, 1, .slice Am g.length cm, g.length, bC (comeV g)⟩]) ∧ Hid (Below w.heap.size w wr)) (fun kv _ => g.length - (intOf kv).toNat)
  case atStart => exact ⟨0, _, Nat.zero_le _, rfl, HC0, HAP, HB2⟩
  case round =>
  obtain ⟨k, cs, hk, rfl, HC, HAP, HBr⟩ := hrel
  by_cases hlt : k < g.length
  · obtain ⟨x, hx⟩ : ∃ x, (comeV g)[k]? = some x := ⟨_, List.getElem?_eq_getElem (by omega)⟩
    obtain ⟨gk, hgk⟩ : ∃ y, g[k]? = some y := ⟨_, List.getElem?_eq_getElem hlt⟩
    have hgd : g.getD k [] = gk := by rw [List.getD_eq_getElem?_getD, hgk]; rfl
    obtain ⟨b1, o1, rfl⟩ := addr_of9 HG.out (by omega)
    obtain ⟨c1, _, ⟨u1, rfl, kx⟩, n1⟩ := cell_of HG.out hgk (HBr.out.mono hh)
    have m1 := n1 _ rfl
    obtain ⟨A3, k3, rfl⟩ := Row.form kx
    have hcm : wr.ownsRow w.heap.size 4 1 (.slice Am g.length cm) g.length (bC (comeV g)) := HAP.out.1 ⟨4, 1, .slice Am g.length cm, g.length, bC (comeV g)⟩ (by simp)
    obtain ⟨gm, cpm, em, _⟩ := form9 hcm (by omega)
    simp only [Value.slice.injEq, true_and] at em
    obtain ⟨rfl, rfl⟩ := em
    have c2 := (hcm.cellAt k (by omega)).trans (show (bC (comeV g))[k]? = some (.bool x) by rw [List.getElem?_map, hx]; rfl)
    have t4 := Hold.Rec.on.thaw HAP.out.head rfl k
    have HCD := Lib.hid (come_at hx)
    have hcl2 := HC.out.1
    have hlo : w.heap.size < wr.heap.size := by
      obtain ⟨g9, c9, e9, _, h9, _⟩ := form9 HAP.out.head (by show 0 < g.length; omega)
      simp only [Value.slice.injEq, Option.some.injEq, Addr.mk.injEq, and_true, true_and] at e9
      omega
    obtain ⟨u4, hu4⟩ : ∃ u, cs[k]? = some u := ⟨_, List.getElem?_eq_getElem (by omega)⟩
    have c4 := (Hold.Rec.on.cell HAP.out.head rfl hu4)
    cases x with
    | true =>
      have HC2 := Lib.hid (HC.out.put hlt (u := .slice A3 gk.length k3) (by rw [hgd]; exact kx) HCD.out)
      have HAP2 := Lib.hid (HAP.out.store (q := k) (u := .slice A3 gk.length k3) rfl)
      have HB3 := Lib.hid (HBr.out.setCell (p := ⟨w.heap.size, k, none⟩) (Nat.le_refl _) (.slice A3 gk.length k3))
      clear hcm hx hgk n1 hgd hu4 kx
      go_wp2_with fail
      go_roundw
      case rel => exact ⟨k + 1, _, by omega, by go_num, HC2, HAP2, HB3⟩
      case measure => simp [intOf]; omega
    | false =>
      have HC2 := Lib.hid (HC.out.skip HCD.out)
      clear hcm hx hgk n1 hgd hu4 kx
      go_wp2_with fail
      go_roundw
      case rel => exact ⟨k + 1, _, by omega, by go_num, HC2, HAP, HBr⟩
      case measure => simp [intOf]; omega
  · have hke : k = g.length := by omega
    subst hke
    have QP := Lib.hid (preds_any 0 wr.heap.size wr _ (ledV g) (HC.out.graph HAP.out.head (HBr.out.mono hh) (Nat.le_refl _) (Nat.le_trans hh HBr.out.size) hn) (Nat.le_refl _) (by rw [led_len]; exact hn))
    go_wp2_with fail
    refine QP.out.mono ?_
    rintro e w7 ⟨vp, rfl, op, hb7⟩
    have HP := Lib.hid (op.lower HBr.out.size)
    have HB7 := Lib.hid (HBr.out.trans (hb7.mono HBr.out.size))
    clear op hb7
    go_wp2_with fail
    go_ret
    exact ⟨_, rfl, HP.out, HB7.out⟩
end Go.Proofs.Ytiohngbmddfgfaa.Lp11
