/-
  Layer 10: package dom walked: the tree at its start.
-/
import Derived.Test.YtiohngbmddfgfaaDomM
namespace Go.Proofs.Ytiohngbmddfgfaa.Dm10
open Go.RowKit Api Mem Fl9

theorem info_tree : (Try.prog.info? 70).map (fun i => (i.size)) = some 4 := by kernel_rfl
abbrev zs (n : Nat) : List Int := List.replicate n 0
theorem start_to (w : World) (n : Nat) {bn bp bg : Nat} (hn : bn = w.heap.size ∨ bn = w.heap.size + 1 ∨ bn = w.heap.size + 1 + 1) (hp : bp = w.heap.size ∨ bp = w.heap.size + 1 ∨ bp = w.heap.size + 1 + 1) (hg : bg = w.heap.size ∨ bg = w.heap.size + 1 ∨ bg = w.heap.size + 1 + 1) (e1 : bn ≠ bp) (e2 : bn ≠ bg) (e3 : bp ≠ bg) :
    ∃ W, ((((w.alloc (.cells (Array.replicate n (.int .i64 0)) 3)).alloc (.cells (Array.replicate n (.int .i64 0)) 3)).alloc (.cells (Array.replicate n (.int .i64 0)) 3)).alloc (.cells #[.slice (some ⟨bn, 0, none⟩) n n, .slice (some ⟨bp, 0, none⟩) n n, .slice (some ⟨bg, 0, none⟩) n n, .int .i64 0] 70)).drew = W ∧
      TO W w.heap.size bn bp bg (w.heap.size + 1 + 1 + 1) n (zs n) (zs n) (zs n) 0 ∧ Below w.heap.size w W := by
  refine ⟨_, rfl, ?_, ((((Below.refl _ _).alloc (Nat.le_refl _) _).alloc (by simp) _).alloc (by simp; omega) _).alloc (by simp; omega) _ |>.drew⟩
  have hz : (iC (zs n)).toArray = Array.replicate n (Value.int .i64 0) := by apply Array.ext'; simp [iC, zs]
  have h0 : ∀ T : Obj, Own ((((w.alloc (.cells (Array.replicate n (.int .i64 0)) 3)).alloc (.cells (Array.replicate n (.int .i64 0)) 3)).alloc (.cells (Array.replicate n (.int .i64 0)) 3)).alloc T).drew w.heap.size 3 (iC (zs n)) := by
    intro T
    rw [← hz]
    exact ((((Own.made w 3 (iC (zs n))).alloc _).alloc _).alloc _).drew
  have h1 : ∀ T : Obj, Own ((((w.alloc (.cells (Array.replicate n (.int .i64 0)) 3)).alloc (.cells (Array.replicate n (.int .i64 0)) 3)).alloc (.cells (Array.replicate n (.int .i64 0)) 3)).alloc T).drew (w.heap.size + 1) 3 (iC (zs n)) := by
    intro T
    rw [← hz]
    have := Own.made (w.alloc (.cells (iC (zs n)).toArray 3)) 3 (iC (zs n))
    have h2 := ((this.alloc (.cells (iC (zs n)).toArray 3)).alloc T).drew
    simpa using h2
  have h2 : ∀ T : Obj, Own ((((w.alloc (.cells (Array.replicate n (.int .i64 0)) 3)).alloc (.cells (Array.replicate n (.int .i64 0)) 3)).alloc (.cells (Array.replicate n (.int .i64 0)) 3)).alloc T).drew (w.heap.size + 1 + 1) 3 (iC (zs n)) := by
    intro T
    rw [← hz]
    have := Own.made ((w.alloc (.cells (iC (zs n)).toArray 3)).alloc (.cells (iC (zs n)).toArray 3)) 3 (iC (zs n))
    have h2 := (this.alloc T).drew
    simpa using h2
  have hall : ∀ (T : Obj) (b : Nat), (b = w.heap.size ∨ b = w.heap.size + 1 ∨ b = w.heap.size + 1 + 1) → Own ((((w.alloc (.cells (Array.replicate n (.int .i64 0)) 3)).alloc (.cells (Array.replicate n (.int .i64 0)) 3)).alloc (.cells (Array.replicate n (.int .i64 0)) 3)).alloc T).drew b 3 (iC (zs n)) := by
    rintro T b (rfl | rfl | rfl)
    · exact h0 T
    · exact h1 T
    · exact h2 T
  refine ⟨hall _ _ hn, hall _ _ hp, hall _ _ hg, ?_, by simp, by simp, by simp, e1, e2, e3, by omega, by omega, by omega, by omega, by omega, by omega, by omega⟩
  have := Own.made (((w.alloc (.cells (Array.replicate n (.int .i64 0)) 3)).alloc (.cells (Array.replicate n (.int .i64 0)) 3)).alloc (.cells (Array.replicate n (.int .i64 0)) 3)) 70 [.slice (some ⟨bn, 0, none⟩) n n, .slice (some ⟨bp, 0, none⟩) n n, .slice (some ⟨bg, 0, none⟩) n n, .int .i64 0]
  have h3 := this.drew
  simpa using h3
/-- what 'start' answers. -/
def StartP (g : List (List Int)) (w : World) (e : Ending) (w' : World) : Prop :=
  ∃ (bn bp bg bt : Nat) (place : List Int), e = .returned (tptr bt) ∧ TO w' w.heap.size bn bp bg bt g.length (List.replicate g.length (-1)) place (zs g.length) 0 ∧ (∀ q, Come g q → place[q]? = some (pos g q : Int)) ∧ Below w.heap.size w w'
theorem rep_set {n k : Nat} (h : k < n) : (List.replicate k (-1 : Int) ++ List.replicate (n - k) 0).set k (-1) = List.replicate (k + 1) (-1) ++ List.replicate (n - (k + 1)) 0 := by
  rw [List.set_append_right _ _ (by simp), List.length_replicate, Nat.sub_self, show n - k = (n - (k + 1)) + 1 by omega, List.replicate_succ, List.set_cons_zero, List.replicate_succ' (n := k), List.append_assoc]
  rfl
set_option maxRecDepth 100000 in
set_option maxHeartbeats 16000000 in
theorem start_any (g : List (List Int)) (lo hi : Nat) (w : World) (hn : g.length ≤ 1000) (v : Value) (ho : Ints lo hi w v (orderV g)) (hh : hi ≤ w.heap.size) :
    Calls Try.prog 41 #[i64 (g.length : Int), v] w (StartP g w) := by
  have hmi := fun (w : World) => run_row9 (P := Try.prog) (t := 31) Try.underlying31 info_int9 rfl (by decide) g.length (by omega) w
  obtain ⟨A, c, rfl⟩ := Row.form ho
  have hol : (orderV g).length ≤ 1000 := by have := order_len g; omega
  have HOR := Lib.hid ho
  have hnd : ∀ (i j : Nat) (x : Int), (orderV g)[i]? = some x → (orderV g)[j]? = some x → i = j := by
    intro i j x h1 h2
    obtain ⟨q, rfl, _, hc⟩ := ord_point (List.mem_of_getElem? h1)
    rw [← pos_of h1, ← pos_of h2]
  have HND := Lib.hid hnd
  have HPT := Lib.hid (show ∀ (i : Nat) (x : Int), (orderV g)[i]? = some x → ∃ q : Nat, x = (q : Int) ∧ q < g.length from fun i x h => by obtain ⟨q, e, h2, _⟩ := ord_point (List.mem_of_getElem? h); exact ⟨q, e, h2⟩)
  have HPO := Lib.hid (show ∀ q, Come g q → (orderV g)[pos g q]? = some (q : Int) from fun q h => pos_at h)
  obtain ⟨o, hoe⟩ : ∃ o, orderV g = o := ⟨_, rfl⟩
  rw [hoe] at hol HOR HND HPT HPO ⊢
  clear ho hoe hnd
  go_enter Try.func41, Try.ntmps41
  go_wp2_with fail
  go_region
  · obtain ⟨W, hW, hTO, hBW⟩ := start_to w g.length (bn := w.heap.size) (bp := w.heap.size + 1) (bg := w.heap.size + 1 + 1) (.inl rfl) (.inr (.inl rfl)) (.inr (.inr rfl)) (by omega) (by omega) (by omega)
    rw [hW]
    have HO := Lib.hid (show TO W w.heap.size (w.heap.size) (w.heap.size + 1) (w.heap.size + 1 + 1) (w.heap.size + 1 + 1 + 1) g.length (List.replicate 0 (-1) ++ List.replicate (g.length - 0) 0) (zs g.length) (zs g.length) 0 by simpa using hTO)
    have HB := Lib.hid hBW
    have c0 := hTO.ot.cell 0
    simp only [List.getElem?_cons_zero] at c0
    clear hW hTO hBW hmi
    go_wp2_with fail
    go_loopw [22] (fun vi wr => ∃ k : Nat, k ≤ g.length ∧ vi = .int .i64 k ∧ Hid (TO wr w.heap.size (w.heap.size) (w.heap.size + 1) (w.heap.size + 1 + 1) (w.heap.size + 1 + 1 + 1) g.length (List.replicate k (-1) ++ List.replicate (g.length - k) 0) (zs g.length) (zs g.length) 0) ∧ Hid (Below w.heap.size w wr)) (fun vi _ => g.length - (intOf vi).toNat)
    case atStart => exact ⟨0, Nat.zero_le _, rfl, HO, HB⟩
    case round =>
    obtain ⟨k, hk, rfl, HO, HB⟩ := hrel
    have c0 := HO.out.ot.cell 0
    have c1 := HO.out.ot.cell 1
    simp only [List.getElem?_cons_zero, List.getElem?_cons_succ] at c0 c1
    by_cases hlt : k < g.length
    · obtain ⟨y, hy⟩ : ∃ y, (List.replicate k (-1 : Int) ++ List.replicate (g.length - k) 0)[k]? = some y := ⟨_, List.getElem?_eq_getElem (by simp; omega)⟩
      have c4 := own_at HO.out.on hy
      have t4 := HO.out.on.thaw k
      have HO2 := Lib.hid (HO.out.putNear k (-1))
      rw [rep_set hlt] at HO2
      have HB2 := Lib.hid (HB.out.setCell (p := ⟨w.heap.size, k, none⟩) HO.out.base_n (i64 (-1)))
      clear hy
      go_wp2_with fail
      go_roundw
      case rel => exact ⟨k + 1, by omega, by go_num, HO2, HB2⟩
      case measure => simp [intOf]; omega
    · have hke : k = g.length := by omega
      subst hke
      have HO2 := Lib.hid (show TO wr w.heap.size (w.heap.size) (w.heap.size + 1) (w.heap.size + 1 + 1) (w.heap.size + 1 + 1 + 1) g.length (List.replicate g.length (-1)) (zs g.length) (zs g.length) 0 by have := HO.out; simpa using this)
      clear HO
      go_wp2_with fail
      go_loopw [34] (fun vi wr => ∃ (i : Nat) (place : List Int), i ≤ o.length ∧ vi = .int .i64 i ∧ Hid (∀ (j : Nat) (q : Nat), j < i → o[j]? = some (q : Int) → place[q]? = some (j : Int)) ∧ Hid (TO wr w.heap.size (w.heap.size) (w.heap.size + 1) (w.heap.size + 1 + 1) (w.heap.size + 1 + 1 + 1) g.length (List.replicate g.length (-1)) place (zs g.length) 0) ∧ Hid (Below w.heap.size w wr)) (fun vi _ => o.length - (intOf vi).toNat)
      case atStart => exact ⟨0, zs g.length, Nat.zero_le _, rfl, Lib.hid (fun j q h => by omega), HO2, HB⟩
      case round =>
      obtain ⟨i, place, hi9, rfl, HP, HO, HB⟩ := hrel
      have c1 := HO.out.ot.cell 1
      simp only [List.getElem?_cons_zero, List.getElem?_cons_succ] at c1
      by_cases hlt2 : i < o.length
      · obtain ⟨x, hx⟩ : ∃ x, o[i]? = some x := ⟨_, List.getElem?_eq_getElem hlt2⟩
        obtain ⟨b1, o1, rfl⟩ := addr_of9 HOR.out (by omega)
        obtain ⟨cs, _, rfl, n1⟩ := cell_of HOR.out hx (HB.out.mono hh)
        have m1 := n1 _ rfl
        obtain ⟨q, rfl, hql⟩ := HPT.out i x hx
        obtain ⟨y, hy⟩ : ∃ y, place[q]? = some y := ⟨_, List.getElem?_eq_getElem (by rw [HO.out.lp]; exact hql)⟩
        have c4 := own_at HO.out.op hy
        have t4 := HO.out.op.thaw q
        have HO2 := Lib.hid (HO.out.putPlace q (i : Int))
        have HB2 := Lib.hid (HB.out.setCell (p := ⟨w.heap.size + 1, q, none⟩) HO.out.base_p (i64 (i : Int)))
        have HP2 := Lib.hid (show ∀ (j : Nat) (r : Nat), j < i + 1 → o[j]? = some (r : Int) → (place.set q (i : Int))[r]? = some (j : Int) by
          intro j r hj hr
          by_cases e : q = r
          · subst e
            rw [List.getElem?_set_self (by rw [HO.out.lp]; exact hql), HND.out i j _ hx hr]
          · rw [List.getElem?_set_ne e]
            refine HP.out j r ?_ hr
            refine Nat.lt_of_le_of_ne (by omega) fun e2 => e ?_
            subst e2
            rw [hx] at hr
            simp only [Option.some.injEq] at hr
            omega)
        clear n1 hx hy
        go_wp2_with fail
        go_roundw
        case rel => exact ⟨i + 1, _, by omega, by go_num, HP2, HO2, HB2⟩
        case measure => simp [intOf]; omega
      · have hie : i = o.length := by omega
        subst hie
        go_wp2_with fail
        go_ret
        refine ⟨_, _, _, _, place, rfl, HO.out, fun q hq => ?_, HB.out⟩
        have h1 := HPO.out q hq
        exact HP.out _ q (List.getElem?_eq_some_iff.1 h1).1 h1
  · obtain ⟨W, hW, hTO, hBW⟩ := start_to w g.length (bn := w.heap.size) (bp := w.heap.size + 1 + 1) (bg := w.heap.size + 1) (.inl rfl) (.inr (.inr rfl)) (.inr (.inl rfl)) (by omega) (by omega) (by omega)
    rw [hW]
    have HO := Lib.hid (show TO W w.heap.size (w.heap.size) (w.heap.size + 1 + 1) (w.heap.size + 1) (w.heap.size + 1 + 1 + 1) g.length (List.replicate 0 (-1) ++ List.replicate (g.length - 0) 0) (zs g.length) (zs g.length) 0 by simpa using hTO)
    have HB := Lib.hid hBW
    have c0 := hTO.ot.cell 0
    simp only [List.getElem?_cons_zero] at c0
    clear hW hTO hBW hmi
    go_wp2_with fail
    go_loopw [22] (fun vi wr => ∃ k : Nat, k ≤ g.length ∧ vi = .int .i64 k ∧ Hid (TO wr w.heap.size (w.heap.size) (w.heap.size + 1 + 1) (w.heap.size + 1) (w.heap.size + 1 + 1 + 1) g.length (List.replicate k (-1) ++ List.replicate (g.length - k) 0) (zs g.length) (zs g.length) 0) ∧ Hid (Below w.heap.size w wr)) (fun vi _ => g.length - (intOf vi).toNat)
    case atStart => exact ⟨0, Nat.zero_le _, rfl, HO, HB⟩
    case round =>
    obtain ⟨k, hk, rfl, HO, HB⟩ := hrel
    have c0 := HO.out.ot.cell 0
    have c1 := HO.out.ot.cell 1
    simp only [List.getElem?_cons_zero, List.getElem?_cons_succ] at c0 c1
    by_cases hlt : k < g.length
    · obtain ⟨y, hy⟩ : ∃ y, (List.replicate k (-1 : Int) ++ List.replicate (g.length - k) 0)[k]? = some y := ⟨_, List.getElem?_eq_getElem (by simp; omega)⟩
      have c4 := own_at HO.out.on hy
      have t4 := HO.out.on.thaw k
      have HO2 := Lib.hid (HO.out.putNear k (-1))
      rw [rep_set hlt] at HO2
      have HB2 := Lib.hid (HB.out.setCell (p := ⟨w.heap.size, k, none⟩) HO.out.base_n (i64 (-1)))
      clear hy
      go_wp2_with fail
      go_roundw
      case rel => exact ⟨k + 1, by omega, by go_num, HO2, HB2⟩
      case measure => simp [intOf]; omega
    · have hke : k = g.length := by omega
      subst hke
      have HO2 := Lib.hid (show TO wr w.heap.size (w.heap.size) (w.heap.size + 1 + 1) (w.heap.size + 1) (w.heap.size + 1 + 1 + 1) g.length (List.replicate g.length (-1)) (zs g.length) (zs g.length) 0 by have := HO.out; simpa using this)
      clear HO
      go_wp2_with fail
      go_loopw [34] (fun vi wr => ∃ (i : Nat) (place : List Int), i ≤ o.length ∧ vi = .int .i64 i ∧ Hid (∀ (j : Nat) (q : Nat), j < i → o[j]? = some (q : Int) → place[q]? = some (j : Int)) ∧ Hid (TO wr w.heap.size (w.heap.size) (w.heap.size + 1 + 1) (w.heap.size + 1) (w.heap.size + 1 + 1 + 1) g.length (List.replicate g.length (-1)) place (zs g.length) 0) ∧ Hid (Below w.heap.size w wr)) (fun vi _ => o.length - (intOf vi).toNat)
      case atStart => exact ⟨0, zs g.length, Nat.zero_le _, rfl, Lib.hid (fun j q h => by omega), HO2, HB⟩
      case round =>
      obtain ⟨i, place, hi9, rfl, HP, HO, HB⟩ := hrel
      have c1 := HO.out.ot.cell 1
      simp only [List.getElem?_cons_zero, List.getElem?_cons_succ] at c1
      by_cases hlt2 : i < o.length
      · obtain ⟨x, hx⟩ : ∃ x, o[i]? = some x := ⟨_, List.getElem?_eq_getElem hlt2⟩
        obtain ⟨b1, o1, rfl⟩ := addr_of9 HOR.out (by omega)
        obtain ⟨cs, _, rfl, n1⟩ := cell_of HOR.out hx (HB.out.mono hh)
        have m1 := n1 _ rfl
        obtain ⟨q, rfl, hql⟩ := HPT.out i x hx
        obtain ⟨y, hy⟩ : ∃ y, place[q]? = some y := ⟨_, List.getElem?_eq_getElem (by rw [HO.out.lp]; exact hql)⟩
        have c4 := own_at HO.out.op hy
        have t4 := HO.out.op.thaw q
        have HO2 := Lib.hid (HO.out.putPlace q (i : Int))
        have HB2 := Lib.hid (HB.out.setCell (p := ⟨w.heap.size + 1 + 1, q, none⟩) HO.out.base_p (i64 (i : Int)))
        have HP2 := Lib.hid (show ∀ (j : Nat) (r : Nat), j < i + 1 → o[j]? = some (r : Int) → (place.set q (i : Int))[r]? = some (j : Int) by
          intro j r hj hr
          by_cases e : q = r
          · subst e
            rw [List.getElem?_set_self (by rw [HO.out.lp]; exact hql), HND.out i j _ hx hr]
          · rw [List.getElem?_set_ne e]
            refine HP.out j r ?_ hr
            refine Nat.lt_of_le_of_ne (by omega) fun e2 => e ?_
            subst e2
            rw [hx] at hr
            simp only [Option.some.injEq] at hr
            omega)
        clear n1 hx hy
        go_wp2_with fail
        go_roundw
        case rel => exact ⟨i + 1, _, by omega, by go_num, HP2, HO2, HB2⟩
        case measure => simp [intOf]; omega
      · have hie : i = o.length := by omega
        subst hie
        go_wp2_with fail
        go_ret
        refine ⟨_, _, _, _, place, rfl, HO.out, fun q hq => ?_, HB.out⟩
        have h1 := HPO.out q hq
        exact HP.out _ q (List.getElem?_eq_some_iff.1 h1).1 h1
  · obtain ⟨W, hW, hTO, hBW⟩ := start_to w g.length (bn := w.heap.size + 1) (bp := w.heap.size) (bg := w.heap.size + 1 + 1) (.inr (.inl rfl)) (.inl rfl) (.inr (.inr rfl)) (by omega) (by omega) (by omega)
    rw [hW]
    have HO := Lib.hid (show TO W w.heap.size (w.heap.size + 1) (w.heap.size) (w.heap.size + 1 + 1) (w.heap.size + 1 + 1 + 1) g.length (List.replicate 0 (-1) ++ List.replicate (g.length - 0) 0) (zs g.length) (zs g.length) 0 by simpa using hTO)
    have HB := Lib.hid hBW
    have c0 := hTO.ot.cell 0
    simp only [List.getElem?_cons_zero] at c0
    clear hW hTO hBW hmi
    go_wp2_with fail
    go_loopw [22] (fun vi wr => ∃ k : Nat, k ≤ g.length ∧ vi = .int .i64 k ∧ Hid (TO wr w.heap.size (w.heap.size + 1) (w.heap.size) (w.heap.size + 1 + 1) (w.heap.size + 1 + 1 + 1) g.length (List.replicate k (-1) ++ List.replicate (g.length - k) 0) (zs g.length) (zs g.length) 0) ∧ Hid (Below w.heap.size w wr)) (fun vi _ => g.length - (intOf vi).toNat)
    case atStart => exact ⟨0, Nat.zero_le _, rfl, HO, HB⟩
    case round =>
    obtain ⟨k, hk, rfl, HO, HB⟩ := hrel
    have c0 := HO.out.ot.cell 0
    have c1 := HO.out.ot.cell 1
    simp only [List.getElem?_cons_zero, List.getElem?_cons_succ] at c0 c1
    by_cases hlt : k < g.length
    · obtain ⟨y, hy⟩ : ∃ y, (List.replicate k (-1 : Int) ++ List.replicate (g.length - k) 0)[k]? = some y := ⟨_, List.getElem?_eq_getElem (by simp; omega)⟩
      have c4 := own_at HO.out.on hy
      have t4 := HO.out.on.thaw k
      have HO2 := Lib.hid (HO.out.putNear k (-1))
      rw [rep_set hlt] at HO2
      have HB2 := Lib.hid (HB.out.setCell (p := ⟨w.heap.size + 1, k, none⟩) HO.out.base_n (i64 (-1)))
      clear hy
      go_wp2_with fail
      go_roundw
      case rel => exact ⟨k + 1, by omega, by go_num, HO2, HB2⟩
      case measure => simp [intOf]; omega
    · have hke : k = g.length := by omega
      subst hke
      have HO2 := Lib.hid (show TO wr w.heap.size (w.heap.size + 1) (w.heap.size) (w.heap.size + 1 + 1) (w.heap.size + 1 + 1 + 1) g.length (List.replicate g.length (-1)) (zs g.length) (zs g.length) 0 by have := HO.out; simpa using this)
      clear HO
      go_wp2_with fail
      go_loopw [34] (fun vi wr => ∃ (i : Nat) (place : List Int), i ≤ o.length ∧ vi = .int .i64 i ∧ Hid (∀ (j : Nat) (q : Nat), j < i → o[j]? = some (q : Int) → place[q]? = some (j : Int)) ∧ Hid (TO wr w.heap.size (w.heap.size + 1) (w.heap.size) (w.heap.size + 1 + 1) (w.heap.size + 1 + 1 + 1) g.length (List.replicate g.length (-1)) place (zs g.length) 0) ∧ Hid (Below w.heap.size w wr)) (fun vi _ => o.length - (intOf vi).toNat)
      case atStart => exact ⟨0, zs g.length, Nat.zero_le _, rfl, Lib.hid (fun j q h => by omega), HO2, HB⟩
      case round =>
      obtain ⟨i, place, hi9, rfl, HP, HO, HB⟩ := hrel
      have c1 := HO.out.ot.cell 1
      simp only [List.getElem?_cons_zero, List.getElem?_cons_succ] at c1
      by_cases hlt2 : i < o.length
      · obtain ⟨x, hx⟩ : ∃ x, o[i]? = some x := ⟨_, List.getElem?_eq_getElem hlt2⟩
        obtain ⟨b1, o1, rfl⟩ := addr_of9 HOR.out (by omega)
        obtain ⟨cs, _, rfl, n1⟩ := cell_of HOR.out hx (HB.out.mono hh)
        have m1 := n1 _ rfl
        obtain ⟨q, rfl, hql⟩ := HPT.out i x hx
        obtain ⟨y, hy⟩ : ∃ y, place[q]? = some y := ⟨_, List.getElem?_eq_getElem (by rw [HO.out.lp]; exact hql)⟩
        have c4 := own_at HO.out.op hy
        have t4 := HO.out.op.thaw q
        have HO2 := Lib.hid (HO.out.putPlace q (i : Int))
        have HB2 := Lib.hid (HB.out.setCell (p := ⟨w.heap.size, q, none⟩) HO.out.base_p (i64 (i : Int)))
        have HP2 := Lib.hid (show ∀ (j : Nat) (r : Nat), j < i + 1 → o[j]? = some (r : Int) → (place.set q (i : Int))[r]? = some (j : Int) by
          intro j r hj hr
          by_cases e : q = r
          · subst e
            rw [List.getElem?_set_self (by rw [HO.out.lp]; exact hql), HND.out i j _ hx hr]
          · rw [List.getElem?_set_ne e]
            refine HP.out j r ?_ hr
            refine Nat.lt_of_le_of_ne (by omega) fun e2 => e ?_
            subst e2
            rw [hx] at hr
            simp only [Option.some.injEq] at hr
            omega)
        clear n1 hx hy
        go_wp2_with fail
        go_roundw
        case rel => exact ⟨i + 1, _, by omega, by go_num, HP2, HO2, HB2⟩
        case measure => simp [intOf]; omega
      · have hie : i = o.length := by omega
        subst hie
        go_wp2_with fail
        go_ret
        refine ⟨_, _, _, _, place, rfl, HO.out, fun q hq => ?_, HB.out⟩
        have h1 := HPO.out q hq
        exact HP.out _ q (List.getElem?_eq_some_iff.1 h1).1 h1
  · obtain ⟨W, hW, hTO, hBW⟩ := start_to w g.length (bn := w.heap.size + 1 + 1) (bp := w.heap.size) (bg := w.heap.size + 1) (.inr (.inr rfl)) (.inl rfl) (.inr (.inl rfl)) (by omega) (by omega) (by omega)
    rw [hW]
    have HO := Lib.hid (show TO W w.heap.size (w.heap.size + 1 + 1) (w.heap.size) (w.heap.size + 1) (w.heap.size + 1 + 1 + 1) g.length (List.replicate 0 (-1) ++ List.replicate (g.length - 0) 0) (zs g.length) (zs g.length) 0 by simpa using hTO)
    have HB := Lib.hid hBW
    have c0 := hTO.ot.cell 0
    simp only [List.getElem?_cons_zero] at c0
    clear hW hTO hBW hmi
    go_wp2_with fail
    go_loopw [22] (fun vi wr => ∃ k : Nat, k ≤ g.length ∧ vi = .int .i64 k ∧ Hid (TO wr w.heap.size (w.heap.size + 1 + 1) (w.heap.size) (w.heap.size + 1) (w.heap.size + 1 + 1 + 1) g.length (List.replicate k (-1) ++ List.replicate (g.length - k) 0) (zs g.length) (zs g.length) 0) ∧ Hid (Below w.heap.size w wr)) (fun vi _ => g.length - (intOf vi).toNat)
    case atStart => exact ⟨0, Nat.zero_le _, rfl, HO, HB⟩
    case round =>
    obtain ⟨k, hk, rfl, HO, HB⟩ := hrel
    have c0 := HO.out.ot.cell 0
    have c1 := HO.out.ot.cell 1
    simp only [List.getElem?_cons_zero, List.getElem?_cons_succ] at c0 c1
    by_cases hlt : k < g.length
    · obtain ⟨y, hy⟩ : ∃ y, (List.replicate k (-1 : Int) ++ List.replicate (g.length - k) 0)[k]? = some y := ⟨_, List.getElem?_eq_getElem (by simp; omega)⟩
      have c4 := own_at HO.out.on hy
      have t4 := HO.out.on.thaw k
      have HO2 := Lib.hid (HO.out.putNear k (-1))
      rw [rep_set hlt] at HO2
      have HB2 := Lib.hid (HB.out.setCell (p := ⟨w.heap.size + 1 + 1, k, none⟩) HO.out.base_n (i64 (-1)))
      clear hy
      go_wp2_with fail
      go_roundw
      case rel => exact ⟨k + 1, by omega, by go_num, HO2, HB2⟩
      case measure => simp [intOf]; omega
    · have hke : k = g.length := by omega
      subst hke
      have HO2 := Lib.hid (show TO wr w.heap.size (w.heap.size + 1 + 1) (w.heap.size) (w.heap.size + 1) (w.heap.size + 1 + 1 + 1) g.length (List.replicate g.length (-1)) (zs g.length) (zs g.length) 0 by have := HO.out; simpa using this)
      clear HO
      go_wp2_with fail
      go_loopw [34] (fun vi wr => ∃ (i : Nat) (place : List Int), i ≤ o.length ∧ vi = .int .i64 i ∧ Hid (∀ (j : Nat) (q : Nat), j < i → o[j]? = some (q : Int) → place[q]? = some (j : Int)) ∧ Hid (TO wr w.heap.size (w.heap.size + 1 + 1) (w.heap.size) (w.heap.size + 1) (w.heap.size + 1 + 1 + 1) g.length (List.replicate g.length (-1)) place (zs g.length) 0) ∧ Hid (Below w.heap.size w wr)) (fun vi _ => o.length - (intOf vi).toNat)
      case atStart => exact ⟨0, zs g.length, Nat.zero_le _, rfl, Lib.hid (fun j q h => by omega), HO2, HB⟩
      case round =>
      obtain ⟨i, place, hi9, rfl, HP, HO, HB⟩ := hrel
      have c1 := HO.out.ot.cell 1
      simp only [List.getElem?_cons_zero, List.getElem?_cons_succ] at c1
      by_cases hlt2 : i < o.length
      · obtain ⟨x, hx⟩ : ∃ x, o[i]? = some x := ⟨_, List.getElem?_eq_getElem hlt2⟩
        obtain ⟨b1, o1, rfl⟩ := addr_of9 HOR.out (by omega)
        obtain ⟨cs, _, rfl, n1⟩ := cell_of HOR.out hx (HB.out.mono hh)
        have m1 := n1 _ rfl
        obtain ⟨q, rfl, hql⟩ := HPT.out i x hx
        obtain ⟨y, hy⟩ : ∃ y, place[q]? = some y := ⟨_, List.getElem?_eq_getElem (by rw [HO.out.lp]; exact hql)⟩
        have c4 := own_at HO.out.op hy
        have t4 := HO.out.op.thaw q
        have HO2 := Lib.hid (HO.out.putPlace q (i : Int))
        have HB2 := Lib.hid (HB.out.setCell (p := ⟨w.heap.size, q, none⟩) HO.out.base_p (i64 (i : Int)))
        have HP2 := Lib.hid (show ∀ (j : Nat) (r : Nat), j < i + 1 → o[j]? = some (r : Int) → (place.set q (i : Int))[r]? = some (j : Int) by
          intro j r hj hr
          by_cases e : q = r
          · subst e
            rw [List.getElem?_set_self (by rw [HO.out.lp]; exact hql), HND.out i j _ hx hr]
          · rw [List.getElem?_set_ne e]
            refine HP.out j r ?_ hr
            refine Nat.lt_of_le_of_ne (by omega) fun e2 => e ?_
            subst e2
            rw [hx] at hr
            simp only [Option.some.injEq] at hr
            omega)
        clear n1 hx hy
        go_wp2_with fail
        go_roundw
        case rel => exact ⟨i + 1, _, by omega, by go_num, HP2, HO2, HB2⟩
        case measure => simp [intOf]; omega
      · have hie : i = o.length := by omega
        subst hie
        go_wp2_with fail
        go_ret
        refine ⟨_, _, _, _, place, rfl, HO.out, fun q hq => ?_, HB.out⟩
        have h1 := HPO.out q hq
        exact HP.out _ q (List.getElem?_eq_some_iff.1 h1).1 h1
  · obtain ⟨W, hW, hTO, hBW⟩ := start_to w g.length (bn := w.heap.size + 1) (bp := w.heap.size + 1 + 1) (bg := w.heap.size) (.inr (.inl rfl)) (.inr (.inr rfl)) (.inl rfl) (by omega) (by omega) (by omega)
    rw [hW]
    have HO := Lib.hid (show TO W w.heap.size (w.heap.size + 1) (w.heap.size + 1 + 1) (w.heap.size) (w.heap.size + 1 + 1 + 1) g.length (List.replicate 0 (-1) ++ List.replicate (g.length - 0) 0) (zs g.length) (zs g.length) 0 by simpa using hTO)
    have HB := Lib.hid hBW
    have c0 := hTO.ot.cell 0
    simp only [List.getElem?_cons_zero] at c0
    clear hW hTO hBW hmi
    go_wp2_with fail
    go_loopw [22] (fun vi wr => ∃ k : Nat, k ≤ g.length ∧ vi = .int .i64 k ∧ Hid (TO wr w.heap.size (w.heap.size + 1) (w.heap.size + 1 + 1) (w.heap.size) (w.heap.size + 1 + 1 + 1) g.length (List.replicate k (-1) ++ List.replicate (g.length - k) 0) (zs g.length) (zs g.length) 0) ∧ Hid (Below w.heap.size w wr)) (fun vi _ => g.length - (intOf vi).toNat)
    case atStart => exact ⟨0, Nat.zero_le _, rfl, HO, HB⟩
    case round =>
    obtain ⟨k, hk, rfl, HO, HB⟩ := hrel
    have c0 := HO.out.ot.cell 0
    have c1 := HO.out.ot.cell 1
    simp only [List.getElem?_cons_zero, List.getElem?_cons_succ] at c0 c1
    by_cases hlt : k < g.length
    · obtain ⟨y, hy⟩ : ∃ y, (List.replicate k (-1 : Int) ++ List.replicate (g.length - k) 0)[k]? = some y := ⟨_, List.getElem?_eq_getElem (by simp; omega)⟩
      have c4 := own_at HO.out.on hy
      have t4 := HO.out.on.thaw k
      have HO2 := Lib.hid (HO.out.putNear k (-1))
      rw [rep_set hlt] at HO2
      have HB2 := Lib.hid (HB.out.setCell (p := ⟨w.heap.size + 1, k, none⟩) HO.out.base_n (i64 (-1)))
      clear hy
      go_wp2_with fail
      go_roundw
      case rel => exact ⟨k + 1, by omega, by go_num, HO2, HB2⟩
      case measure => simp [intOf]; omega
    · have hke : k = g.length := by omega
      subst hke
      have HO2 := Lib.hid (show TO wr w.heap.size (w.heap.size + 1) (w.heap.size + 1 + 1) (w.heap.size) (w.heap.size + 1 + 1 + 1) g.length (List.replicate g.length (-1)) (zs g.length) (zs g.length) 0 by have := HO.out; simpa using this)
      clear HO
      go_wp2_with fail
      go_loopw [34] (fun vi wr => ∃ (i : Nat) (place : List Int), i ≤ o.length ∧ vi = .int .i64 i ∧ Hid (∀ (j : Nat) (q : Nat), j < i → o[j]? = some (q : Int) → place[q]? = some (j : Int)) ∧ Hid (TO wr w.heap.size (w.heap.size + 1) (w.heap.size + 1 + 1) (w.heap.size) (w.heap.size + 1 + 1 + 1) g.length (List.replicate g.length (-1)) place (zs g.length) 0) ∧ Hid (Below w.heap.size w wr)) (fun vi _ => o.length - (intOf vi).toNat)
      case atStart => exact ⟨0, zs g.length, Nat.zero_le _, rfl, Lib.hid (fun j q h => by omega), HO2, HB⟩
      case round =>
      obtain ⟨i, place, hi9, rfl, HP, HO, HB⟩ := hrel
      have c1 := HO.out.ot.cell 1
      simp only [List.getElem?_cons_zero, List.getElem?_cons_succ] at c1
      by_cases hlt2 : i < o.length
      · obtain ⟨x, hx⟩ : ∃ x, o[i]? = some x := ⟨_, List.getElem?_eq_getElem hlt2⟩
        obtain ⟨b1, o1, rfl⟩ := addr_of9 HOR.out (by omega)
        obtain ⟨cs, _, rfl, n1⟩ := cell_of HOR.out hx (HB.out.mono hh)
        have m1 := n1 _ rfl
        obtain ⟨q, rfl, hql⟩ := HPT.out i x hx
        obtain ⟨y, hy⟩ : ∃ y, place[q]? = some y := ⟨_, List.getElem?_eq_getElem (by rw [HO.out.lp]; exact hql)⟩
        have c4 := own_at HO.out.op hy
        have t4 := HO.out.op.thaw q
        have HO2 := Lib.hid (HO.out.putPlace q (i : Int))
        have HB2 := Lib.hid (HB.out.setCell (p := ⟨w.heap.size + 1 + 1, q, none⟩) HO.out.base_p (i64 (i : Int)))
        have HP2 := Lib.hid (show ∀ (j : Nat) (r : Nat), j < i + 1 → o[j]? = some (r : Int) → (place.set q (i : Int))[r]? = some (j : Int) by
          intro j r hj hr
          by_cases e : q = r
          · subst e
            rw [List.getElem?_set_self (by rw [HO.out.lp]; exact hql), HND.out i j _ hx hr]
          · rw [List.getElem?_set_ne e]
            refine HP.out j r ?_ hr
            refine Nat.lt_of_le_of_ne (by omega) fun e2 => e ?_
            subst e2
            rw [hx] at hr
            simp only [Option.some.injEq] at hr
            omega)
        clear n1 hx hy
        go_wp2_with fail
        go_roundw
        case rel => exact ⟨i + 1, _, by omega, by go_num, HP2, HO2, HB2⟩
        case measure => simp [intOf]; omega
      · have hie : i = o.length := by omega
        subst hie
        go_wp2_with fail
        go_ret
        refine ⟨_, _, _, _, place, rfl, HO.out, fun q hq => ?_, HB.out⟩
        have h1 := HPO.out q hq
        exact HP.out _ q (List.getElem?_eq_some_iff.1 h1).1 h1
  · obtain ⟨W, hW, hTO, hBW⟩ := start_to w g.length (bn := w.heap.size + 1 + 1) (bp := w.heap.size + 1) (bg := w.heap.size) (.inr (.inr rfl)) (.inr (.inl rfl)) (.inl rfl) (by omega) (by omega) (by omega)
    rw [hW]
    have HO := Lib.hid (show TO W w.heap.size (w.heap.size + 1 + 1) (w.heap.size + 1) (w.heap.size) (w.heap.size + 1 + 1 + 1) g.length (List.replicate 0 (-1) ++ List.replicate (g.length - 0) 0) (zs g.length) (zs g.length) 0 by simpa using hTO)
    have HB := Lib.hid hBW
    have c0 := hTO.ot.cell 0
    simp only [List.getElem?_cons_zero] at c0
    clear hW hTO hBW hmi
    go_wp2_with fail
    go_loopw [22] (fun vi wr => ∃ k : Nat, k ≤ g.length ∧ vi = .int .i64 k ∧ Hid (TO wr w.heap.size (w.heap.size + 1 + 1) (w.heap.size + 1) (w.heap.size) (w.heap.size + 1 + 1 + 1) g.length (List.replicate k (-1) ++ List.replicate (g.length - k) 0) (zs g.length) (zs g.length) 0) ∧ Hid (Below w.heap.size w wr)) (fun vi _ => g.length - (intOf vi).toNat)
    case atStart => exact ⟨0, Nat.zero_le _, rfl, HO, HB⟩
    case round =>
    obtain ⟨k, hk, rfl, HO, HB⟩ := hrel
    have c0 := HO.out.ot.cell 0
    have c1 := HO.out.ot.cell 1
    simp only [List.getElem?_cons_zero, List.getElem?_cons_succ] at c0 c1
    by_cases hlt : k < g.length
    · obtain ⟨y, hy⟩ : ∃ y, (List.replicate k (-1 : Int) ++ List.replicate (g.length - k) 0)[k]? = some y := ⟨_, List.getElem?_eq_getElem (by simp; omega)⟩
      have c4 := own_at HO.out.on hy
      have t4 := HO.out.on.thaw k
      have HO2 := Lib.hid (HO.out.putNear k (-1))
      rw [rep_set hlt] at HO2
      have HB2 := Lib.hid (HB.out.setCell (p := ⟨w.heap.size + 1 + 1, k, none⟩) HO.out.base_n (i64 (-1)))
      clear hy
      go_wp2_with fail
      go_roundw
      case rel => exact ⟨k + 1, by omega, by go_num, HO2, HB2⟩
      case measure => simp [intOf]; omega
    · have hke : k = g.length := by omega
      subst hke
      have HO2 := Lib.hid (show TO wr w.heap.size (w.heap.size + 1 + 1) (w.heap.size + 1) (w.heap.size) (w.heap.size + 1 + 1 + 1) g.length (List.replicate g.length (-1)) (zs g.length) (zs g.length) 0 by have := HO.out; simpa using this)
      clear HO
      go_wp2_with fail
      go_loopw [34] (fun vi wr => ∃ (i : Nat) (place : List Int), i ≤ o.length ∧ vi = .int .i64 i ∧ Hid (∀ (j : Nat) (q : Nat), j < i → o[j]? = some (q : Int) → place[q]? = some (j : Int)) ∧ Hid (TO wr w.heap.size (w.heap.size + 1 + 1) (w.heap.size + 1) (w.heap.size) (w.heap.size + 1 + 1 + 1) g.length (List.replicate g.length (-1)) place (zs g.length) 0) ∧ Hid (Below w.heap.size w wr)) (fun vi _ => o.length - (intOf vi).toNat)
      case atStart => exact ⟨0, zs g.length, Nat.zero_le _, rfl, Lib.hid (fun j q h => by omega), HO2, HB⟩
      case round =>
      obtain ⟨i, place, hi9, rfl, HP, HO, HB⟩ := hrel
      have c1 := HO.out.ot.cell 1
      simp only [List.getElem?_cons_zero, List.getElem?_cons_succ] at c1
      by_cases hlt2 : i < o.length
      · obtain ⟨x, hx⟩ : ∃ x, o[i]? = some x := ⟨_, List.getElem?_eq_getElem hlt2⟩
        obtain ⟨b1, o1, rfl⟩ := addr_of9 HOR.out (by omega)
        obtain ⟨cs, _, rfl, n1⟩ := cell_of HOR.out hx (HB.out.mono hh)
        have m1 := n1 _ rfl
        obtain ⟨q, rfl, hql⟩ := HPT.out i x hx
        obtain ⟨y, hy⟩ : ∃ y, place[q]? = some y := ⟨_, List.getElem?_eq_getElem (by rw [HO.out.lp]; exact hql)⟩
        have c4 := own_at HO.out.op hy
        have t4 := HO.out.op.thaw q
        have HO2 := Lib.hid (HO.out.putPlace q (i : Int))
        have HB2 := Lib.hid (HB.out.setCell (p := ⟨w.heap.size + 1, q, none⟩) HO.out.base_p (i64 (i : Int)))
        have HP2 := Lib.hid (show ∀ (j : Nat) (r : Nat), j < i + 1 → o[j]? = some (r : Int) → (place.set q (i : Int))[r]? = some (j : Int) by
          intro j r hj hr
          by_cases e : q = r
          · subst e
            rw [List.getElem?_set_self (by rw [HO.out.lp]; exact hql), HND.out i j _ hx hr]
          · rw [List.getElem?_set_ne e]
            refine HP.out j r ?_ hr
            refine Nat.lt_of_le_of_ne (by omega) fun e2 => e ?_
            subst e2
            rw [hx] at hr
            simp only [Option.some.injEq] at hr
            omega)
        clear n1 hx hy
        go_wp2_with fail
        go_roundw
        case rel => exact ⟨i + 1, _, by omega, by go_num, HP2, HO2, HB2⟩
        case measure => simp [intOf]; omega
      · have hie : i = o.length := by omega
        subst hie
        go_wp2_with fail
        go_ret
        refine ⟨_, _, _, _, place, rfl, HO.out, fun q hq => ?_, HB.out⟩
        have h1 := HPO.out q hq
        exact HP.out _ q (List.getElem?_eq_some_iff.1 h1).1 h1
end Go.Proofs.Ytiohngbmddfgfaa.Dm10
