/-
  The document's Same, where the lines are the same.
-/
import Derived.Test.YtdibmmiobmlcbaaProg
import Derived.Test.YtdibmmiobmlcbaaLinesMem
import Derived.Lib.Hide
import Derived.Lib.Walk
import Derived.Deep.QuietTactic
import Derived.BigQuiet
namespace Go.Proofs.Ytdibmmiobmlcbaa
open Go.RowKit LinesM Mem

/-- Two lists of lines with the same words; with the same numbers, if these are asked for. -/
def Alike (num : Bool) (xs ys : List ML) : Prop := xs.length = ys.length ∧ ∀ (i : Nat) (x y : ML), xs[i]? = some x → ys[i]? = some y → x.2.2 = y.2.2 ∧ (num = true → x.1 = y.1)

theorem below_drewN {B : Nat} {a w : World} (h : Below B a w) (n : Nat) : Below B a (w.drewN n) := ⟨h.os, h.tape, h.output, h.size, h.block⟩

set_option maxHeartbeats 4000000 in
set_option maxRecDepth 100000 in
theorem same_any (num : Bool) (lo1 hi1 lo2 hi2 : Nat) (w : World) (v1 v2 : Value) (xs ys : List ML) (h1 : Lins lo1 hi1 w v1 xs) (h2 : Lins lo2 hi2 w v2 ys) (hh1 : hi1 ≤ w.heap.size) (hh2 : hi2 ≤ w.heap.size) (hq : Alike num xs ys) :
    Calls Try.prog 12 #[v1, v2, .bool num] w fun e w' => e = .returned (.bool true) ∧ Below w.heap.size w w' := by
  obtain ⟨hlen, hq⟩ := hq
  obtain ⟨A, n, cap, b, off, rfl, hn, hm, ha, hc⟩ := h1
  obtain ⟨A', n', cap', b', off', rfl, hn', hm', ha', hc'⟩ := h2
  obtain rfl : n = n' := by omega
  have HC := Lib.hid hc
  have HA := Lib.hid ha
  have HC' := Lib.hid hc'
  have HA' := Lib.hid ha'
  have HN := Lib.hid hn
  have HN' := Lib.hid hn'
  have HQ := Lib.hid hq
  clear hc ha hn hc' ha' hn' hq hlen
  have e0 : (n != n) = false := by simp
  have HQ1 : Hid (∀ (i : Nat) (x y : ML), xs[i]? = some x → ys[i]? = some y → x.2.2 = y.2.2) := Lib.hid fun i x y h1 h2 => (HQ.out i x y h1 h2).1
  have HQ2 : num = true → Hid (∀ (i : Nat) (x y : ML), xs[i]? = some x → ys[i]? = some y → x.1 = y.1) := fun hnum => Lib.hid fun i x y h1 h2 => (HQ.out i x y h1 h2).2 hnum
  clear HQ
  rcases Bool.eq_false_or_eq_true num with hnum | hnum
  · have HQ3 := HQ2 hnum
    clear HQ2
    subst hnum
    go_enter Try.func12, Try.ntmps12
    go_wp2
    go_loopw [7, 8] (fun i _ wr => ∃ k : Nat, k ≤ n ∧ i = .int .i64 k ∧ Hid (Below w.heap.size w wr)) (fun i _ _ => n - (intOf i).toNat)
    case atStart => exact ⟨0, Nat.zero_le _, rfl, Lib.hid (Below.refl _ _)⟩
    case round =>
      obtain ⟨k, hk, rfl, HB⟩ := hrel
      by_cases hlt : k < n
      · obtain ⟨⟨N1, u1, ws1⟩, hx⟩ : ∃ x, xs[k]? = some x := ⟨_, List.getElem?_eq_getElem (by have := HN.out; omega)⟩
        obtain ⟨⟨N2, u2, ws2⟩, hy⟩ : ∃ x, ys[k]? = some x := ⟨_, List.getElem?_eq_getElem (by have := HN'.out; omega)⟩
        obtain rfl : ws1 = ws2 := HQ1.out k _ _ hx hy
        obtain rfl : N1 = N2 := HQ3.out k _ _ hx hy
        obtain ⟨rfl, _, hb⟩ := HA.out (by omega)
        obtain ⟨rfl, _, hb'⟩ := HA'.out (by omega)
        obtain ⟨c1, c2, c3⟩ := HC.out k _ hx
        obtain ⟨c1', c2', c3'⟩ := HC'.out k _ hy
        simp only at c1 c2 c3 c1' c2' c3'
        obtain ⟨A1, p1, rfl⟩ := c3.form
        obtain ⟨A2, p2, rfl⟩ := c3'.form
        obtain ⟨s1, o1, _, hm1, a1, j1⟩ := c3.get
        obtain ⟨s2, o2, _, hm2, a2, j2⟩ := c3'.get
        have hb2 : b < w.heap.size := by omega
        have hb2' : b' < w.heap.size := by omega
        have f1 := HB.out.cell (p := ⟨b, off + k * 2, none⟩) hb2
        have f2 := HB.out.cell (p := ⟨b, off + k * 2 + 1, none⟩) hb2
        have f3 := HB.out.cell (p := ⟨b', off' + k * 2, none⟩) hb2'
        have f4 := HB.out.cell (p := ⟨b', off' + k * 2 + 1, none⟩) hb2'
        have d1 := f1.trans c1
        have d2 := f2.trans c2
        have d3 := f3.trans c1'
        have d4 := f4.trans c2'
        have C2 := Lib.hid c2
        have C4 := Lib.hid c2'
        have A1h := Lib.hid a1
        have A2h := Lib.hid a2
        have J1h := Lib.hid j1
        have J2h := Lib.hid j2
        have e1 : (ws1.length != ws1.length) = false := by simp
        clear c1 c2 c3 c1' c2' c3' f1 f2 f3 f4 a1 a2 j1 j2 hx hy
        obtain ⟨wo, rfl⟩ : ∃ wo : World, wo = wr := ⟨_, rfl⟩
        go_wp2
        go_quiet (fail)
        go_wp2
        go_loopw [8] (fun j wq => ∃ q : Nat, q ≤ ws1.length ∧ j = .int .i64 q ∧ Hid (Below w.heap.size w wq)) (fun j _ => ws1.length - (intOf j).toNat)
        case atStart => exact ⟨0, Nat.zero_le _, rfl, Lib.hid (below_drewN HB.out _)⟩
        case round =>
          obtain ⟨q, hq, rfl, HB2⟩ := hrel
          have f2 := HB2.out.cell (p := ⟨b, off + k * 2 + 1, none⟩) hb2
          have f4 := HB2.out.cell (p := ⟨b', off' + k * 2 + 1, none⟩) hb2'
          have d5 := f2.trans C2.out
          have d6 := f4.trans C4.out
          clear d1 d2 d3 d4 f2 f4
          by_cases hqt : q < ws1.length
          · obtain ⟨x, hx⟩ : ∃ x, ws1[q]? = some x := ⟨_, List.getElem?_eq_getElem hqt⟩
            obtain ⟨rfl, _, hs1⟩ := A1h.out (by omega)
            obtain ⟨rfl, _, hs2⟩ := A2h.out (by omega)
            have d7 := (HB2.out.cell (p := ⟨s1, o1 + q, none⟩) (by show s1 < _; omega)).trans (J1h.out q x hx)
            have d8 := (HB2.out.cell (p := ⟨s2, o2 + q, none⟩) (by show s2 < _; omega)).trans (J2h.out q x hx)
            clear hx
            go_wp2
            go_quiet (fail)
            go_wp2
            go_roundw
            case rel => exact ⟨q + 1, by omega, by go_num, Lib.hid (below_drewN HB2.out _)⟩
            case measure => simp [intOf]; omega
          · go_wp2
            go_roundw
            case rel => exact ⟨k + 1, by omega, by go_num, HB2⟩
            case measure => simp [intOf]; omega
      · go_wp2
        go_ret
        exact ⟨rfl, HB.out⟩
  · clear HQ2
    subst hnum
    go_enter Try.func12, Try.ntmps12
    go_wp2
    go_loopw [7, 8] (fun i _ wr => ∃ k : Nat, k ≤ n ∧ i = .int .i64 k ∧ Hid (Below w.heap.size w wr)) (fun i _ _ => n - (intOf i).toNat)
    case atStart => exact ⟨0, Nat.zero_le _, rfl, Lib.hid (Below.refl _ _)⟩
    case round =>
      obtain ⟨k, hk, rfl, HB⟩ := hrel
      by_cases hlt : k < n
      · obtain ⟨⟨N1, u1, ws1⟩, hx⟩ : ∃ x, xs[k]? = some x := ⟨_, List.getElem?_eq_getElem (by have := HN.out; omega)⟩
        obtain ⟨⟨N2, u2, ws2⟩, hy⟩ : ∃ x, ys[k]? = some x := ⟨_, List.getElem?_eq_getElem (by have := HN'.out; omega)⟩
        obtain rfl : ws1 = ws2 := HQ1.out k _ _ hx hy
        obtain ⟨rfl, _, hb⟩ := HA.out (by omega)
        obtain ⟨rfl, _, hb'⟩ := HA'.out (by omega)
        obtain ⟨c1, c2, c3⟩ := HC.out k _ hx
        obtain ⟨c1', c2', c3'⟩ := HC'.out k _ hy
        simp only at c1 c2 c3 c1' c2' c3'
        obtain ⟨A1, p1, rfl⟩ := c3.form
        obtain ⟨A2, p2, rfl⟩ := c3'.form
        obtain ⟨s1, o1, _, hm1, a1, j1⟩ := c3.get
        obtain ⟨s2, o2, _, hm2, a2, j2⟩ := c3'.get
        have hb2 : b < w.heap.size := by omega
        have hb2' : b' < w.heap.size := by omega
        have f1 := HB.out.cell (p := ⟨b, off + k * 2, none⟩) hb2
        have f2 := HB.out.cell (p := ⟨b, off + k * 2 + 1, none⟩) hb2
        have f3 := HB.out.cell (p := ⟨b', off' + k * 2, none⟩) hb2'
        have f4 := HB.out.cell (p := ⟨b', off' + k * 2 + 1, none⟩) hb2'
        have d1 := f1.trans c1
        have d2 := f2.trans c2
        have d3 := f3.trans c1'
        have d4 := f4.trans c2'
        have C2 := Lib.hid c2
        have C4 := Lib.hid c2'
        have A1h := Lib.hid a1
        have A2h := Lib.hid a2
        have J1h := Lib.hid j1
        have J2h := Lib.hid j2
        have e1 : (ws1.length != ws1.length) = false := by simp
        clear c1 c2 c3 c1' c2' c3' f1 f2 f3 f4 a1 a2 j1 j2 hx hy
        obtain ⟨wo, rfl⟩ : ∃ wo : World, wo = wr := ⟨_, rfl⟩
        go_wp2
        go_quiet (fail)
        go_wp2
        go_loopw [8] (fun j wq => ∃ q : Nat, q ≤ ws1.length ∧ j = .int .i64 q ∧ Hid (Below w.heap.size w wq)) (fun j _ => ws1.length - (intOf j).toNat)
        case atStart => exact ⟨0, Nat.zero_le _, rfl, Lib.hid (below_drewN HB.out _)⟩
        case round =>
          obtain ⟨q, hq, rfl, HB2⟩ := hrel
          have f2 := HB2.out.cell (p := ⟨b, off + k * 2 + 1, none⟩) hb2
          have f4 := HB2.out.cell (p := ⟨b', off' + k * 2 + 1, none⟩) hb2'
          have d5 := f2.trans C2.out
          have d6 := f4.trans C4.out
          clear d1 d2 d3 d4 f2 f4
          by_cases hqt : q < ws1.length
          · obtain ⟨x, hx⟩ : ∃ x, ws1[q]? = some x := ⟨_, List.getElem?_eq_getElem hqt⟩
            obtain ⟨rfl, _, hs1⟩ := A1h.out (by omega)
            obtain ⟨rfl, _, hs2⟩ := A2h.out (by omega)
            have d7 := (HB2.out.cell (p := ⟨s1, o1 + q, none⟩) (by show s1 < _; omega)).trans (J1h.out q x hx)
            have d8 := (HB2.out.cell (p := ⟨s2, o2 + q, none⟩) (by show s2 < _; omega)).trans (J2h.out q x hx)
            clear hx
            go_wp2
            go_quiet (fail)
            go_wp2
            go_roundw
            case rel => exact ⟨q + 1, by omega, by go_num, Lib.hid (below_drewN HB2.out _)⟩
            case measure => simp [intOf]; omega
          · go_wp2
            go_roundw
            case rel => exact ⟨k + 1, by omega, by go_num, HB2⟩
            case measure => simp [intOf]; omega
      · go_wp2
        go_ret
        exact ⟨rfl, HB.out⟩
end Go.Proofs.Ytdibmmiobmlcbaa
