/-
  The statements' few: are words few and short?
-/
import Derived.Test.YtdibmmiobmlcbaaProg
import Derived.Test.YtdibmmiobmlcbaaLinesMem
import Derived.Test.YtdibmmiobmlcbaaLinesJoinMath
import Derived.Lib.Hide
import Derived.Lib.Walk
namespace Go.Proofs.Ytdibmmiobmlcbaa
open Go.RowKit LinesM Mem

def wsum (ws : List Wd) : Nat := (ws.map List.length).sum
def total (xs : List ML) : Nat := (xs.map fun x => wsum x.2.2).sum
/-- Few and short. -/
def Few (xs : List ML) : Prop := xs.length ≤ 300 ∧ (∀ x ∈ xs, x.2.2.length ≤ 300) ∧ total xs ≤ 30000
def FewPost (xs : List ML) (w : World) (e : Ending) (w' : World) : Prop := ∃ r : Bool, e = .returned (.bool r) ∧ (r = true → Few xs) ∧ w = w'

theorem wsum_next {ws : List Wd} {q : Nat} {x : Wd} (h : ws[q]? = some x) : wsum (ws.take (q + 1)) = wsum (ws.take q) + x.length := by
  rw [take_next h]; unfold wsum; rw [List.map_append, List.sum_append]; simp
theorem total_next {xs : List ML} {k : Nat} {x : ML} (h : xs[k]? = some x) : total (xs.take (k + 1)) = total (xs.take k) + wsum x.2.2 := by
  rw [take_next h]; unfold total; rw [List.map_append, List.sum_append]; simp
theorem short_next {xs : List ML} {k : Nat} {x : ML} (h : xs[k]? = some x) (hs : ∀ y ∈ xs.take k, y.2.2.length ≤ 300) (hx : x.2.2.length ≤ 300) : ∀ y ∈ xs.take (k + 1), y.2.2.length ≤ 300 := by
  intro y hy
  rw [take_next h] at hy
  rcases List.mem_append.1 hy with hy | hy
  · exact hs y hy
  · rw [List.mem_singleton] at hy; subst hy; exact hx
theorem flat_len (ws : List Wd) : (ws.flatMap fun x => (32 : UInt8) :: x).length = wsum ws + ws.length := by
  induction ws with
  | nil => rfl
  | cons a ws ih =>
    rw [List.flatMap_cons, List.length_append, ih, List.length_cons, List.length_cons]
    have : wsum (a :: ws) = a.length + wsum ws := by unfold wsum; simp
    omega
theorem lineJ_len (ws : List Wd) : (lineJ ws).length ≤ wsum ws + ws.length := by
  cases ws with
  | nil => simp [lineJ]
  | cons w ws =>
    have h := flat_len ws
    have : wsum (w :: ws) = w.length + wsum ws := by unfold wsum; simp
    simp only [lineJ, List.length_append, List.length_cons]
    omega
theorem few_join (xs : List ML) (b : ∀ x ∈ xs, x.2.2.length ≤ 300) : (joinV (xs.map fun x => x.2.2)).length ≤ total xs + 301 * xs.length := by
  induction xs with
  | nil => simp [joinV]
  | cons x xs ih =>
    have h1 := ih fun y hy => b y (by simp [hy])
    have h2 := b x (by simp)
    have h3 := lineJ_len x.2.2
    have h4 : total (x :: xs) = wsum x.2.2 + total xs := by unfold total; simp
    have h5 : joinV ((x :: xs).map fun x => x.2.2) = lineJ x.2.2 ++ [10] ++ joinV (xs.map fun x => x.2.2) := by unfold joinV; simp
    rw [h5, List.length_append, List.length_append, List.length_singleton, List.length_cons]
    omega
theorem few_small {xs : List ML} (h : Few xs) : (joinV (xs.map fun x => x.2.2)).length ≤ 1099511627776 := by
  have := few_join xs h.2.1
  have h1 := h.1
  have h2 := h.2.2
  omega

set_option maxHeartbeats 4000000 in
theorem few_any (lo hi : Nat) (w : World) (v : Value) (xs : List ML) (h : Lins lo hi w v xs) :
    Calls Try.prog 14 #[v] w (FewPost xs w) := by
  obtain ⟨A, n, cap, b, off, rfl, hn, hm, ha, hc⟩ := h
  have HC := Lib.hid hc
  have HA := Lib.hid ha
  have HN := Lib.hid hn
  clear hc ha hn
  by_cases h300 : 300 < n
  · have e1 : decide (300 < (n : Int)) = true := decide_eq_true (by omega)
    go_enter Try.func14, Try.ntmps14
    go_wp2
    go_ret
    exact ⟨false, rfl, (fun h => by cases h), rfl⟩
  have e1 : decide (300 < (n : Int)) = false := decide_eq_false (by omega)
  go_enter Try.func14, Try.ntmps14
  go_wp2
  go_loop [3, 4, 5] (fun s i _ => ∃ (k : Nat) (m : Nat), k ≤ n ∧ i = .int .i64 k ∧ s = .int .i64 m ∧ m ≤ 30000 ∧ Hid (m = total (xs.take k)) ∧ Hid (∀ y ∈ xs.take k, y.2.2.length ≤ 300)) (fun _ i _ => n - (intOf i).toNat)
  case atStart => exact ⟨0, 0, Nat.zero_le _, rfl, rfl, by omega, Lib.hid rfl, Lib.hid (by simp)⟩
  case round =>
    obtain ⟨k, m, hk, rfl, rfl, hm30, HT, HS⟩ := hrel
    by_cases hlt : k < n
    · obtain ⟨⟨N, u, ws⟩, hx⟩ : ∃ x, xs[k]? = some x := ⟨_, List.getElem?_eq_getElem (by have := HN.out; omega)⟩
      obtain ⟨rfl, _, hb⟩ := HA.out (by omega)
      obtain ⟨c1, c2, c3⟩ := HC.out k _ hx
      simp only at c1 c2 c3
      obtain ⟨A1, p1, rfl⟩ := c3.form
      obtain ⟨s1, o1, _, hm1, a1, j1⟩ := c3.get
      have A1h := Lib.hid a1
      have J1h := Lib.hid j1
      have HX := Lib.hid hx
      clear c1 c3 a1 j1 hx
      by_cases hw300 : 300 < ws.length
      · have e2 : decide (300 < (ws.length : Int)) = true := decide_eq_true (by omega)
        go_wp2
        go_ret
        exact ⟨false, rfl, (fun h => by cases h), rfl⟩
      have e2 : decide (300 < (ws.length : Int)) = false := decide_eq_false (by omega)
      go_wp2
      go_loop [3, 5] (fun s j => ∃ (q : Nat) (t : Nat), q ≤ ws.length ∧ j = .int .i64 q ∧ s = .int .i64 t ∧ t ≤ 30000 + 3000 * q ∧ Hid (t = total (xs.take k) + wsum (ws.take q))) (fun _ j => ws.length - (intOf j).toNat)
      case atStart => exact ⟨0, m, Nat.zero_le _, rfl, rfl, by omega, Lib.hid (by rw [HT.out]; simp [wsum])⟩
      case round =>
        obtain ⟨q, t, hq, rfl, rfl, ht, HTT⟩ := hrel
        by_cases hqt : q < ws.length
        · obtain ⟨x, hxq⟩ : ∃ x, ws[q]? = some x := ⟨_, List.getElem?_eq_getElem hqt⟩
          obtain ⟨rfl, _, hs1⟩ := A1h.out (by omega)
          have d7 := J1h.out q x hxq
          obtain ⟨s, hs⟩ : ∃ s : ByteArray, s = ⟨x.toArray⟩ := ⟨_, rfl⟩
          have hsz : s.size = x.length := by rw [hs]; show x.toArray.size = _; simp
          rw [← hs] at d7
          have HSZ := Lib.hid hsz
          have HXQ := Lib.hid (wsum_next hxq)
          clear hs hsz hxq
          by_cases h3 : 3000 < s.size
          · have e3 : decide (3000 < (s.size : Int)) = true := decide_eq_true (by omega)
            go_wp2
            go_ret
            exact ⟨false, rfl, (fun h => by cases h), rfl⟩
          · have e3 : decide (3000 < (s.size : Int)) = false := decide_eq_false (by omega)
            go_wp2
            go_round
            case rel => exact ⟨q + 1, t + s.size, by omega, by go_num, by go_num, by omega, Lib.hid (by rw [HXQ.out, HTT.out, HSZ.out]; omega)⟩
            case measure => simp [intOf]; omega
        · obtain rfl : q = ws.length := by omega
          have ht2 : t = total (xs.take (k + 1)) := by rw [total_next HX.out, HTT.out, List.take_length]
          have HT2 := Lib.hid ht2
          clear ht2
          by_cases h30 : 30000 < t
          · have e3 : decide (30000 < (t : Int)) = true := decide_eq_true (by omega)
            go_wp2
            go_ret
            exact ⟨false, rfl, (fun h => by cases h), rfl⟩
          · have e3 : decide (30000 < (t : Int)) = false := decide_eq_false (by omega)
            go_wp2
            go_round
            case rel => exact ⟨k + 1, t, by omega, by go_num, rfl, by omega, HT2, Lib.hid (short_next HX.out HS.out (by show ws.length ≤ 300; omega))⟩
            case measure => simp [intOf]; omega
    · obtain rfl : k = n := by omega
      have hf : Few xs := by
        have h1 := HN.out
        have h2 := HT.out
        have h3 := HS.out
        rw [List.take_of_length_le (by omega)] at h2 h3
        exact ⟨by omega, h3, by omega⟩
      have HF := Lib.hid hf
      clear hf
      go_wp2
      go_ret
      exact ⟨true, rfl, fun _ => HF.out, rfl⟩
end Go.Proofs.Ytdibmmiobmlcbaa
