/-
  Layer 9: the document's own functions that only read: rows of numbers, of truths, and graphs.
-/
import Derived.Test.YtiohngbmddfgfaaMem
import Derived.Test.YtiohngbmddfgfaaPlainS
import Derived.Test.YtiohngbmddfgfaaProg
import Derived.Lib.Hide
import Derived.Lib.Walk
import Derived.Deep.RegionLaw
namespace Go.Proofs.Ytiohngbmddfgfaa.Fl9
open Go.RowKit Api Mem

def Ints (lo hi : Nat) (w : World) (v : Value) (l : List Int) : Prop := Row lo hi w 1 (fun cs x => cs = [i64 x]) v l
def Bools (lo hi : Nat) (w : World) (v : Value) (l : List Bool) : Prop := Row lo hi w 1 (fun cs x => cs = [.bool x]) v l
def Graph (lo hi : Nat) (w : World) (v : Value) (g : List (List Int)) : Prop := Row lo hi w 1 (fun cs l => ∃ u, cs = [u] ∧ Ints lo hi w u l) v g
section
variable {lo hi lo' hi' : Nat} {w w' : World} (s : Still lo hi lo' hi' w w')
include s
theorem Ints.move {v : Value} {l : List Int} (h : Ints lo hi w v l) : Ints lo' hi' w' v l := Row.move h s.keep s.low s.high fun _ _ h => h
theorem Bools.move {v : Value} {l : List Bool} (h : Bools lo hi w v l) : Bools lo' hi' w' v l := Row.move h s.keep s.low s.high fun _ _ h => h
theorem Graph.move {v : Value} {g : List (List Int)} (h : Graph lo hi w v g) : Graph lo' hi' w' v g := Row.move h s.keep s.low s.high fun _ _ ⟨u, e, h⟩ => ⟨u, e, Ints.move s h⟩
end
def BP9 (p : Prop) (w : World) (e : Ending) (w' : World) : Prop := ∃ b : Bool, e = .returned (.bool b) ∧ (b = true ↔ p) ∧ Below w.heap.size w w'
def TP9 (p : Prop) (w : World) (e : Ending) (w' : World) : Prop := ∃ b : Bool, e = .returned (.bool b) ∧ (b = true → p) ∧ Below w.heap.size w w'
theorem cell_of {α : Type} {lo hi : Nat} {w w' : World} {b off n cap i : Nat} {P : List Value → α → Prop} {l : List α} {x : α} (h : Row lo hi w 1 P (.slice (some ⟨b, off, none⟩) n cap) l) (hx : l[i]? = some x) (hb : Below hi w w') : ∃ cs, cs.length = 1 ∧ P cs x ∧ ∀ u, cs[0]? = some u → w'.cell? ⟨b, off + i, none⟩ = some u := by
  obtain ⟨b', off', hn, hm, ha, hc⟩ := h.get
  have hi := (List.getElem?_eq_some_iff.1 hx).1
  obtain ⟨e, h1, h2⟩ := ha (by omega)
  simp only [Option.some.injEq, Addr.mk.injEq, and_true] at e
  obtain ⟨rfl, rfl⟩ := e
  obtain ⟨cs, c1, c2, c3⟩ := hc i x hx
  refine ⟨cs, c1, c3, fun u hu => ?_⟩
  have := cells_later c2 hb h2 0 u hu
  simpa using this
theorem addr_of9 {α : Type} {lo hi : Nat} {w : World} {A : Option Addr} {n cap : Nat} {P : List Value → α → Prop} {l : List α} (h : Row lo hi w 1 P (.slice A n cap) l) (h0 : 0 < n) : ∃ b off, A = some ⟨b, off, none⟩ := by
  obtain ⟨b, off, _, _, ha, _⟩ := h.get
  exact ⟨b, off, (ha h0).1⟩
theorem take_eq {α : Type} {a b : List α} {k : Nat} {x y : α} (h : a.take k = b.take k) (hx : a[k]? = some x) (hy : b[k]? = some y) (e : x = y) : a.take (k + 1) = b.take (k + 1) := by
  obtain ⟨h1, e1⟩ := List.getElem?_eq_some_iff.1 hx
  obtain ⟨h2, e2⟩ := List.getElem?_eq_some_iff.1 hy
  rw [List.take_succ_eq_append_getElem h1, List.take_succ_eq_append_getElem h2, h, e1, e2, e]
theorem ne_at {α : Type} {a b : List α} {k : Nat} {x y : α} (hx : a[k]? = some x) (hy : b[k]? = some y) (e : x ≠ y) : a ≠ b := fun h => by
  rw [h, hy] at hx
  exact e (Option.some.inj hx).symm
set_option maxRecDepth 100000 in
set_option maxHeartbeats 8000000 in
theorem same_any (lo hi : Nat) (w : World) (va vb : Value) (a b : List Int) (ha : Ints lo hi w va a) (hb : Ints lo hi w vb b) (hh : hi ≤ w.heap.size) :
    Calls Try.prog 15 #[va, vb] w (BP9 (a = b) w) := by
  obtain ⟨A1, k1, rfl⟩ := Row.form ha
  obtain ⟨A2, k2, rfl⟩ := Row.form hb
  have hla : a.length ≤ 4611686018427387903 := by obtain ⟨_, _, _, h, _⟩ := Row.get ha; exact h
  have HA := Lib.hid ha
  have HB := Lib.hid hb
  clear ha hb
  by_cases hl : a.length = b.length
  · have e0 : ((a.length : Int) == (b.length : Int)) = true := by rw [hl]; simp
    have HL := Lib.hid hl
    clear hl
    go_enter Try.func15, Try.ntmps15
    go_wp2_with fail
    go_loopw [5] (fun i wr => ∃ k : Nat, k ≤ a.length ∧ i = .int .i64 k ∧ Hid (a.take k = b.take k) ∧ Hid (Below w.heap.size w wr)) (fun i _ => a.length - (intOf i).toNat)
    case atStart => exact ⟨0, Nat.zero_le _, rfl, Lib.hid (by simp), Lib.hid (Below.refl _ _)⟩
    case round =>
    obtain ⟨k, hk, rfl, HK, HBr⟩ := hrel
    by_cases hlt : k < a.length
    · have hlb : k < b.length := by have := HL.out; omega
      obtain ⟨x, hx⟩ : ∃ x, a[k]? = some x := ⟨_, List.getElem?_eq_getElem hlt⟩
      obtain ⟨y, hy⟩ : ∃ y, b[k]? = some y := ⟨_, List.getElem?_eq_getElem hlb⟩
      obtain ⟨b1, o1, rfl⟩ := addr_of9 HA.out (by omega)
      obtain ⟨b2, o2, rfl⟩ := addr_of9 HB.out (by omega)
      obtain ⟨c1, _, rfl, n1⟩ := cell_of HA.out hx (HBr.out.mono hh)
      obtain ⟨c2, _, rfl, n2⟩ := cell_of HB.out hy (HBr.out.mono hh)
      have m1 := n1 _ rfl
      have m2 := n2 _ rfl
      have HX := Lib.hid hx
      have HY := Lib.hid hy
      clear n1 n2 hx hy
      by_cases he : x = y
      · have en : (x == y) = true := by simpa using he
        have HE := Lib.hid he
        clear he
        go_wp2_with fail
        go_region
        go_wp2_with fail
        go_roundw
        case rel => exact ⟨k + 1, by omega, by go_num, Lib.hid (take_eq HK.out HX.out HY.out HE.out), Lib.hid HBr.out.drew⟩
        case measure => simp [intOf]; omega
      · have en : (x == y) = false := by simpa using he
        have en2 : ¬ x = y := he
        have HE := Lib.hid he
        clear he
        go_wp2_with fail
        go_region
        go_wp2_with fail
        go_ret
        exact ⟨false, rfl, ⟨fun h => (by cases h), fun h => absurd h (ne_at HX.out HY.out HE.out)⟩, HBr.out.drew⟩
    · have HF := Lib.hid (show a = b by
        have := HK.out
        have h2 := HL.out
        rwa [List.take_of_length_le (by omega), List.take_of_length_le (by omega)] at this)
      go_wp2_with fail
      go_ret
      exact ⟨true, rfl, ⟨fun _ => HF.out, fun _ => rfl⟩, HBr.out⟩
  · have e0 : ((a.length : Int) == (b.length : Int)) = false := by simp; omega
    have e1 : ¬ ((a.length : Int) = (b.length : Int)) := by omega
    have HL := Lib.hid hl
    clear hl
    go_enter Try.func15, Try.ntmps15
    go_wp2_with fail
    go_ret
    exact ⟨false, rfl, ⟨fun h => (by cases h), fun h => absurd (by rw [h]) HL.out⟩, Below.refl _ _⟩
set_option maxRecDepth 100000 in
set_option maxHeartbeats 8000000 in
theorem lists_any (lo hi : Nat) (w : World) (va vb : Value) (a b : List (List Int)) (ha : Graph lo hi w va a) (hb : Graph lo hi w vb b) (hh : hi ≤ w.heap.size) :
    Calls Try.prog 13 #[va, vb] w (BP9 (a = b) w) := by
  obtain ⟨A1, k1, rfl⟩ := Row.form ha
  obtain ⟨A2, k2, rfl⟩ := Row.form hb
  have hla : a.length ≤ 4611686018427387903 := by obtain ⟨_, _, _, h, _⟩ := Row.get ha; exact h
  have HA := Lib.hid ha
  have HB := Lib.hid hb
  clear ha hb
  by_cases hl : a.length = b.length
  · have e0 : ((a.length : Int) == (b.length : Int)) = true := by rw [hl]; simp
    have HL := Lib.hid hl
    clear hl
    go_enter Try.func13, Try.ntmps13
    go_wp2_with fail
    go_loopw [5] (fun i wr => ∃ k : Nat, k ≤ a.length ∧ i = .int .i64 k ∧ Hid (a.take k = b.take k) ∧ Hid (Below w.heap.size w wr)) (fun i _ => a.length - (intOf i).toNat)
    case atStart => exact ⟨0, Nat.zero_le _, rfl, Lib.hid (by simp), Lib.hid (Below.refl _ _)⟩
    case round =>
    obtain ⟨k, hk, rfl, HK, HBr⟩ := hrel
    by_cases hlt : k < a.length
    · have hlb : k < b.length := by have := HL.out; omega
      obtain ⟨x, hx⟩ : ∃ x, a[k]? = some x := ⟨_, List.getElem?_eq_getElem hlt⟩
      obtain ⟨y, hy⟩ : ∃ y, b[k]? = some y := ⟨_, List.getElem?_eq_getElem hlb⟩
      obtain ⟨b1, o1, rfl⟩ := addr_of9 HA.out (by omega)
      obtain ⟨b2, o2, rfl⟩ := addr_of9 HB.out (by omega)
      obtain ⟨c1, _, ⟨u1, rfl, kx⟩, n1⟩ := cell_of HA.out hx (HBr.out.mono hh)
      obtain ⟨c2, _, ⟨u2, rfl, ky⟩, n2⟩ := cell_of HB.out hy (HBr.out.mono hh)
      obtain ⟨A3, k3, rfl⟩ := Row.form kx
      obtain ⟨A4, k4, rfl⟩ := Row.form ky
      have m1 := n1 _ rfl
      have m2 := n2 _ rfl
      have HX := Lib.hid hx
      have HY := Lib.hid hy
      have QS := Lib.hid (same_any lo hi wr.drew _ _ _ _ (Ints.move (Still.of_below (HBr.out.drew.mono hh)) kx) (Ints.move (Still.of_below (HBr.out.drew.mono hh)) ky) (Nat.le_trans hh HBr.out.size))
      clear n1 n2 hx hy kx ky
      go_wp2_with fail
      go_region_law (go_simp; go_at_call 15; (with_reducible refine QS.out.mono ?_); rintro e w6 ⟨b6, rfl, h6, hw6⟩; have H6 := Lib.hid h6; have HB6 := Lib.hid (HBr.out.drew.trans (hw6.mono HBr.out.size)); clear h6 hw6)
      all_goals
        cases b6 with
        | true =>
          have HTK := Lib.hid (take_eq HK.out HX.out HY.out (H6.out.1 rfl))
          go_wp2_with fail
          go_roundw
          case rel => exact ⟨k + 1, by omega, by omega, HTK⟩
          case measure => simp [intOf]; omega
        | false =>
          have HNE := Lib.hid (ne_at HX.out HY.out (fun e => by have := H6.out.2 e; cases this))
          go_wp2_with fail
          go_ret
          exact ⟨false, rfl, ⟨fun h => (by cases h), fun h => absurd h HNE.out⟩, HB6.out⟩
    · have HF := Lib.hid (show a = b by
        have := HK.out
        have h2 := HL.out
        rwa [List.take_of_length_le (by omega), List.take_of_length_le (by omega)] at this)
      go_wp2_with fail
      go_ret
      exact ⟨true, rfl, ⟨fun _ => HF.out, fun _ => rfl⟩, HBr.out⟩
  · have e0 : ((a.length : Int) == (b.length : Int)) = false := by simp; omega
    have e1 : ¬ ((a.length : Int) = (b.length : Int)) := by omega
    have HL := Lib.hid hl
    clear hl
    go_enter Try.func13, Try.ntmps13
    go_wp2_with fail
    go_ret
    exact ⟨false, rfl, ⟨fun h => (by cases h), fun h => absurd (by rw [h]) HL.out⟩, Below.refl _ _⟩
/-- few points, which lead to few. -/
def FewG (g : List (List Int)) (most : Int) : Prop := (g.length : Int) ≤ most ∧ ∀ l ∈ g, l.length ≤ 20
theorem take_in9 {α : Type} {l : List α} {k : Nat} {x : α} (hx : l[k]? = some x) {Q : α → Prop} (h : ∀ y ∈ l.take k, Q y) (hq : Q x) : ∀ y ∈ l.take (k + 1), Q y := by
  obtain ⟨hk, e⟩ := List.getElem?_eq_some_iff.1 hx
  intro y hy
  rw [List.take_succ_eq_append_getElem hk, e] at hy
  rcases List.mem_append.1 hy with hy | hy
  · exact h y hy
  · simp at hy
    subst hy
    exact hq
set_option maxRecDepth 100000 in
set_option maxHeartbeats 8000000 in
theorem fewG_any (lo hi : Nat) (w : World) (v : Value) (g : List (List Int)) (hg : Graph lo hi w v g) (hh : hi ≤ w.heap.size) (most : Int) :
    Calls Try.prog 14 #[v, i64 most] w (TP9 (FewG g most) w) := by
  obtain ⟨A1, k1, rfl⟩ := Row.form hg
  have hla : g.length ≤ 4611686018427387903 := by obtain ⟨_, _, _, h, _⟩ := Row.get hg; exact h
  have HG := Lib.hid hg
  clear hg
  by_cases hm : (g.length : Int) ≤ most
  · have e0 : decide (most < (g.length : Int)) = false := decide_eq_false (by omega)
    go_enter Try.func14, Try.ntmps14
    go_wp2_with fail
    go_loopw [5] (fun i wr => ∃ k : Nat, k ≤ g.length ∧ i = .int .i64 k ∧ Hid (∀ l ∈ g.take k, l.length ≤ 20) ∧ Hid (Below w.heap.size w wr)) (fun i _ => g.length - (intOf i).toNat)
    case atStart => exact ⟨0, Nat.zero_le _, rfl, Lib.hid (fun l hl => by simp at hl), Lib.hid (Below.refl _ _)⟩
    case round =>
    obtain ⟨k, hk, rfl, HK, HBr⟩ := hrel
    by_cases hlt : k < g.length
    · obtain ⟨x, hx⟩ : ∃ x, g[k]? = some x := ⟨_, List.getElem?_eq_getElem hlt⟩
      obtain ⟨b1, o1, rfl⟩ := addr_of9 HG.out (by omega)
      obtain ⟨c1, _, ⟨u1, rfl, kx⟩, n1⟩ := cell_of HG.out hx (HBr.out.mono hh)
      obtain ⟨A3, k3, rfl⟩ := Row.form kx
      have m1 := n1 _ rfl
      have HX := Lib.hid hx
      clear n1 hx kx
      by_cases h2 : x.length ≤ 20
      · have e2 : decide ((20 : Int) < (x.length : Int)) = false := decide_eq_false (by omega)
        have H2 := Lib.hid h2
        clear h2
        go_wp2_with fail
        go_roundw
        case rel => exact ⟨k + 1, by omega, by go_num, Lib.hid (take_in9 HX.out HK.out H2.out), HBr⟩
        case measure => simp [intOf]; omega
      · have e2 : decide ((20 : Int) < (x.length : Int)) = true := decide_eq_true (by omega)
        clear h2
        go_wp2_with fail
        go_ret
        exact ⟨false, rfl, fun h => (by cases h), HBr.out⟩
    · have HF := Lib.hid (show FewG g most from ⟨hm, by have := HK.out; rwa [List.take_of_length_le (by omega)] at this⟩)
      go_wp2_with fail
      go_ret
      exact ⟨true, rfl, fun _ => HF.out, HBr.out⟩
  · have e0 : decide (most < (g.length : Int)) = true := decide_eq_true (by omega)
    clear hm
    go_enter Try.func14, Try.ntmps14
    go_wp2_with fail
    go_ret
    exact ⟨false, rfl, fun h => (by cases h), Below.refl _ _⟩
set_option maxRecDepth 100000 in
set_option maxHeartbeats 8000000 in
theorem leadsG_any (lo hi : Nat) (w : World) (v : Value) (g : List (List Int)) (hg : Graph lo hi w v g) (hh : hi ≤ w.heap.size) (a : Nat) (l : List Int) (hl : g[a]? = some l) (b : Int) :
    Calls Try.prog 36 #[v, i64 (a : Int), i64 b] w (BP9 (b ∈ l) w) := by
  obtain ⟨A1, k1, rfl⟩ := Row.form hg
  have hal := (List.getElem?_eq_some_iff.1 hl).1
  have hla : g.length ≤ 4611686018427387903 := by obtain ⟨_, _, _, h, _⟩ := Row.get hg; exact h
  obtain ⟨b1, o1, rfl⟩ := addr_of9 hg (by omega)
  obtain ⟨c1, _, ⟨u1, rfl, kx⟩, n1⟩ := cell_of hg hl (Below.refl hi w)
  obtain ⟨A3, k3, rfl⟩ := Row.form kx
  have hll : l.length ≤ 4611686018427387903 := by obtain ⟨_, _, _, h, _⟩ := Row.get kx; exact h
  have HG := Lib.hid hg
  have HL := Lib.hid hl
  have HKX := Lib.hid kx
  have m1 := n1 _ rfl
  clear hg hl kx n1
  go_enter Try.func36, Try.ntmps36
  go_wp2_with fail
  go_loopw [7] (fun i wr => ∃ k : Nat, k ≤ l.length ∧ i = .int .i64 k ∧ Hid (b ∉ l.take k) ∧ Hid (Below w.heap.size w wr)) (fun i _ => l.length - (intOf i).toNat)
  case atStart => exact ⟨0, Nat.zero_le _, rfl, Lib.hid (by simp), Lib.hid (Below.refl _ _)⟩
  case round =>
  obtain ⟨k, hk, rfl, HK, HBr⟩ := hrel
  obtain ⟨c2, _, ⟨u2, rfl, kx2⟩, n2⟩ := cell_of HG.out HL.out (HBr.out.mono hh)
  have m2 := n2 _ rfl
  obtain ⟨c3, _, ⟨u3, rfl, kx3⟩, n3⟩ := cell_of HG.out HL.out (Below.refl hi w)
  have m3 := n3 _ rfl
  rw [m1] at m3
  obtain rfl := Option.some.inj m3
  have m4 := (HBr.out.cell (p := ⟨b1, o1 + a, none⟩) (World.block_lt_of_cell? w _ m1)).trans m1
  rw [m4] at m2
  clear m2 n2 n3 kx2 kx3 m3
  by_cases hlt : k < l.length
  · obtain ⟨x, hx⟩ : ∃ x, l[k]? = some x := ⟨_, List.getElem?_eq_getElem hlt⟩
    obtain ⟨b2, o2, rfl⟩ := addr_of9 HKX.out (by omega)
    obtain ⟨c5, _, rfl, n5⟩ := cell_of HKX.out hx (HBr.out.mono hh)
    have m5 := n5 _ rfl
    have HX := Lib.hid hx
    clear n5 hx
    by_cases he : x = b
    · have en : (x == b) = true := by simpa using he
      have HE := Lib.hid he
      clear he
      go_wp2_with fail
      go_ret
      exact ⟨true, rfl, ⟨fun _ => by rw [← HE.out]; exact List.mem_of_getElem? HX.out, fun _ => rfl⟩, HBr.out⟩
    · have en : (x == b) = false := by simpa using he
      have en2 : ¬ x = b := he
      have HE := Lib.hid he
      clear he
      go_wp2_with fail
      go_roundw
      case rel => exact ⟨k + 1, by omega, by go_num, Lib.hid (fun hm => take_in9 (Q := fun y => y ≠ b) HX.out (fun y hy e => HK.out (e ▸ hy)) HE.out b hm rfl), HBr⟩
      case measure => simp [intOf]; omega
  · have HF := Lib.hid (show b ∉ l by have := HK.out; rwa [List.take_of_length_le (by omega)] at this)
    go_wp2_with fail
    go_ret
    exact ⟨false, rfl, ⟨fun h => (by cases h), fun h => absurd h HF.out⟩, HBr.out⟩
end Go.Proofs.Ytiohngbmddfgfaa.Fl9
