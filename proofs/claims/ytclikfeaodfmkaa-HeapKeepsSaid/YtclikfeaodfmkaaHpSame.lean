/-
  Layer 15: the document's Same and New.
-/
import Derived.Test.YtclikfeaodfmkaaHpStore
import Derived.StillTailTactics
import Derived.Deep.RegionHeld3
import Derived.Test.YtclikfeaodfmkaaLpTwo
namespace Go.Proofs.Ytclikfeaodfmkaa.Hp15
open Go.RowKit Api Mem

set_option maxRecDepth 100000 in
set_option maxHeartbeats 8000000 in
theorem same_any (lo hi : Nat) (w : World) (va vb : Value) (a b : Hp) (ha : Obs lo hi w va a) (hb : Obs lo hi w vb b) (hh : hi ≤ w.heap.size) :
    Calls Try.prog 9 #[va, vb] w (BPH (a = b) w) := by
  obtain ⟨A1, k1, rfl⟩ := Row.form ha
  obtain ⟨A2, k2, rfl⟩ := Row.form hb
  have hla := row_len ha
  have HA := Lib.hid ha
  have HB := Lib.hid hb
  clear ha hb
  by_cases hl : a.length = b.length
  · have e0 : ((a.length : Int) != (b.length : Int)) = false := by rw [hl]; simp
    have HL := Lib.hid hl
    clear hl
    go_enter Try.func9, Try.ntmps9
    go_wp2_with fail
    go_loopw [5] (fun i wr => ∃ k : Nat, k ≤ a.length ∧ i = .int .i64 k ∧ Hid (a.take k = b.take k) ∧ Hid (Below w.heap.size w wr)) (fun i _ => a.length - (intOf i).toNat)
    case atStart => exact ⟨0, Nat.zero_le _, rfl, Lib.hid (by simp), Lib.hid (Below.refl _ _)⟩
    case round =>
    obtain ⟨k, hk, rfl, HK, HBr⟩ := hrel
    by_cases hlt : k < a.length
    · have hlb : k < b.length := by have := HL.out; omega
      obtain ⟨x, hx⟩ : ∃ x, a[k]? = some x := ⟨_, List.getElem?_eq_getElem hlt⟩
      obtain ⟨y, hy⟩ : ∃ y, b[k]? = some y := ⟨_, List.getElem?_eq_getElem hlb⟩
      obtain ⟨b1, o1, rfl, _⟩ := addr2 HA.out (by omega)
      obtain ⟨b2, o2, rfl, _⟩ := addr2 HB.out (by omega)
      obtain ⟨A3, k3, u3, c1⟩ := ob_at HA.out hx
      obtain ⟨A4, k4, u4, c2⟩ := ob_at HB.out hy
      obtain ⟨m1, m2⟩ := c1 wr (HBr.out.mono hh)
      obtain ⟨m3, m4⟩ := c2 wr (HBr.out.mono hh)
      have HX := Lib.hid hx
      have HY := Lib.hid hy
      have QS := Lib.hid (fun (w5 : World) (hb : Below w.heap.size w w5) => sameVals_any lo hi w5 _ _ _ _ (Vls.move (Still.of_below (hb.mono hh)) u3) (Vls.move (Still.of_below (hb.mono hh)) u4) (Nat.le_trans hh hb.size))
      have hbl := World.block_lt_of_cell? wr _ m1
      have hbl2 := World.block_lt_of_cell? wr _ m3
      clear hx hy u3 u4 c1 c2
      obtain ⟨cx, lx⟩ := x
      obtain ⟨cy, ly⟩ := y
      by_cases h1 : cx = cy
      · have e1 : (cx == cy) = true := by simpa using h1
        have H1 := Lib.hid h1
        clear h1
        have SK : ∀ (w1 w' : World) (_ : Below w1.heap.size w1 w') (_ : (w1.cell? ⟨b1, o1 + k * 2, none⟩ = some (str cx) ∧ w1.cell? ⟨b1, o1 + k * 2 + 1, none⟩ = some (.slice A3 lx.length k3) ∧ w1.cell? ⟨b2, o2 + k * 2, none⟩ = some (str cy) ∧ w1.cell? ⟨b2, o2 + k * 2 + 1, none⟩ = some (.slice A4 ly.length k4)) ∧ Hid (Below w.heap.size w w1)), (w'.cell? ⟨b1, o1 + k * 2, none⟩ = some (str cx) ∧ w'.cell? ⟨b1, o1 + k * 2 + 1, none⟩ = some (.slice A3 lx.length k3) ∧ w'.cell? ⟨b2, o2 + k * 2, none⟩ = some (str cy) ∧ w'.cell? ⟨b2, o2 + k * 2 + 1, none⟩ = some (.slice A4 ly.length k4)) ∧ Hid (Below w.heap.size w w') := fun w1 w' hb h => by
          have kk : ∀ {a v}, w1.cell? a = some v → w'.cell? a = some v := fun h => (hb.cell (World.block_lt_of_cell? w1 _ h)).trans h
          exact ⟨⟨kk h.1.1, kk h.1.2.1, kk h.1.2.2.1, kk h.1.2.2.2⟩, Lib.hid (h.2.out.trans (hb.mono h.2.out.size))⟩
        have HSK := Lib.hid SK
        clear SK
        by_cases h2 : lx = ly
        · have H2 := Lib.hid h2
          clear h2
          go_wp2_with fail
          go_region_held3 (fun w' => (w'.cell? ⟨b1, o1 + k * 2, none⟩ = some (str cx) ∧ w'.cell? ⟨b1, o1 + k * 2 + 1, none⟩ = some (.slice A3 lx.length k3) ∧ w'.cell? ⟨b2, o2 + k * 2, none⟩ = some (str cy) ∧ w'.cell? ⟨b2, o2 + k * 2 + 1, none⟩ = some (.slice A4 ly.length k4)) ∧ Hid (Below w.heap.size w w'))
            (first | exact ⟨⟨m1, m2, m3, m4⟩, HBr⟩ | exact ⟨⟨m1, m2, m3, m4⟩, Lib.hid HBr.out.drew⟩ | exact HSK.out _ _ hb (by assumption))
            ((go_at_call 10; (with_reducible refine (yesH (QS.out _ (Hid.out (And.right (by assumption)))) H2.out).mono ?_); rintro e w' ⟨rfl, hb⟩))
          rename_i hHeld
          have HU6 := hHeld.2
          clear hHeld
          go_wp2_with fail
          go_roundw
          case rel => exact ⟨k + 1, by omega, by go_num, Lib.hid (take_one HK.out HX.out HY.out (by rw [H1.out, H2.out])), HU6⟩
          case measure => simp [intOf]; omega
        · have H2 := Lib.hid h2
          have HN := Lib.hid (show a ≠ b from un_at HX.out HY.out (fun e => by injection e with _ e; exact h2 e))
          clear h2
          go_wp2_with fail
          go_region_held3 (fun w' => (w'.cell? ⟨b1, o1 + k * 2, none⟩ = some (str cx) ∧ w'.cell? ⟨b1, o1 + k * 2 + 1, none⟩ = some (.slice A3 lx.length k3) ∧ w'.cell? ⟨b2, o2 + k * 2, none⟩ = some (str cy) ∧ w'.cell? ⟨b2, o2 + k * 2 + 1, none⟩ = some (.slice A4 ly.length k4)) ∧ Hid (Below w.heap.size w w'))
            (first | exact ⟨⟨m1, m2, m3, m4⟩, HBr⟩ | exact ⟨⟨m1, m2, m3, m4⟩, Lib.hid HBr.out.drew⟩ | exact HSK.out _ _ hb (by assumption))
            ((go_at_call 10; (with_reducible refine (notH (QS.out _ (Hid.out (And.right (by assumption)))) H2.out).mono ?_); rintro e w' ⟨rfl, hb⟩))
          rename_i hHeld
          have HU6 := hHeld.2
          clear hHeld
          go_wp2_with fail
          go_ret
          exact ⟨false, rfl, ⟨fun h => (by cases h), fun h => absurd h HN.out⟩, HU6.out⟩
      · have e1 : (cx == cy) = false := by simpa using h1
        have HN := Lib.hid (show a ≠ b from un_at HX.out HY.out (fun e => by injection e with e _; exact h1 e))
        clear h1
        go_wp2_with fail
        go_region
        go_wp2_with fail
        go_ret
        exact ⟨false, rfl, ⟨fun h => (by cases h), fun h => absurd h HN.out⟩, HBr.out.drew⟩
    · have HF := Lib.hid (show a = b by
        have := HK.out
        have h2 := HL.out
        rwa [List.take_of_length_le (by omega), List.take_of_length_le (by omega)] at this)
      go_wp2_with fail
      go_ret
      exact ⟨true, rfl, ⟨fun _ => HF.out, fun _ => rfl⟩, HBr.out⟩
  · have e0 : ((a.length : Int) != (b.length : Int)) = true := by simp; omega
    have HL := Lib.hid (show a ≠ b from fun e => hl (by rw [e]))
    clear hl
    go_enter Try.func9, Try.ntmps9
    go_wp2_with fail
    go_ret
    exact ⟨false, rfl, ⟨fun h => (by cases h), fun h => absurd h HL.out⟩, Below.refl _ _⟩
end Go.Proofs.Ytclikfeaodfmkaa.Hp15
