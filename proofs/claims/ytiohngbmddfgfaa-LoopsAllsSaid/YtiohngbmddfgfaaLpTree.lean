/-
  Layer 11, plainly: in the order of a tree each point's own stand right behind it.
-/
import Derived.Test.YtiohngbmddfgfaaLpDoc
namespace Go.Proofs.Ytiohngbmddfgfaa.Lp11
open Fl9 Dm10

/-- from a down to b, by steps. -/
inductive Up (t : List (List Int)) (a : Nat) : Nat → Prop
  | refl : Up t a a
  | step {b c : Nat} : Up t a b → (c : Int) ∈ t.getD b [] → Up t a c
theorem Up.trans {t : List (List Int)} {a b c : Nat} (h : Up t a b) (k : Up t b c) : Up t a c := by
  induction k with
  | refl => exact h
  | step _ h1 ih => exact .step ih h1
/-- each one of L has one behind it that leads to it, all between being that one's own; or it stands in ks. -/
def Nst (t : List (List Int)) (ks : List Int) (L : List Int) : Prop := ∀ (i x : Nat), L[i]? = some (x : Int) → (∃ j y : Nat, i < j ∧ L[j]? = some (y : Int) ∧ (x : Int) ∈ t.getD y [] ∧ ∀ k z : Nat, i ≤ k → k ≤ j → L[k]? = some (z : Int) → Up t y z) ∨ (x : Int) ∈ ks
theorem Nst.nil (t : List (List Int)) (ks : List Int) : Nst t ks [] := fun i x h => by simp at h
theorem Nst.app {t : List (List Int)} {k1 k2 n1 n2 : List Int} (h : Nst t k1 n1) (g : Nst t k2 n2) : Nst t (k1 ++ k2) (n1 ++ n2) := by
  intro i x hx
  by_cases hi : i < n1.length
  · rw [List.getElem?_append_left hi] at hx
    rcases h i x hx with ⟨j, y, h1, h2, h3, h4⟩ | h1
    · have hj := (List.getElem?_eq_some_iff.1 h2).1
      refine .inl ⟨j, y, h1, by rw [List.getElem?_append_left hj]; exact h2, h3, fun k z b1 b2 hz => ?_⟩
      rw [List.getElem?_append_left (by omega)] at hz
      exact h4 k z b1 b2 hz
    · exact .inr (List.mem_append_left _ h1)
  · rw [List.getElem?_append_right (by omega)] at hx
    rcases g _ x hx with ⟨j, y, h1, h2, h3, h4⟩ | h1
    · refine .inl ⟨n1.length + j, y, by omega, by rw [List.getElem?_append_right (by omega), Nat.add_sub_cancel_left]; exact h2, h3, fun k z b1 b2 hz => ?_⟩
      rw [List.getElem?_append_right (by omega)] at hz
      exact h4 _ z (by omega) (by omega) hz
    · exact .inr (List.mem_append_right _ h1)
def Goes3 (g : List (List Int)) (f : Nat) (rec : Nat → List Bool → List Int → List Bool × List Int) : Prop := ∀ (p : Nat) (m : List Bool) (l : List Int), m[p]? = some false → un m ≤ f → m.length = g.length → ∃ new, (rec p m l).2 = l ++ new ∧ (∀ x : Nat, (x : Int) ∈ new → Up g p x) ∧ Nst g [(p : Int)] new
theorem all3 {g : List (List Int)} {f : Nat} {rec : Nat → List Bool → List Int → List Bool × List Int} {m : List Bool} {l : List Int} (hr : Fl9.Good g.length f rec) (h3 : Goes3 g f rec) : ∀ (ks : List Int) {s : List Bool × List Int}, Dn g.length f m l s → ∃ new, (ks.foldl (stepV g.length rec) s).2 = s.2 ++ new ∧ (∀ x : Nat, (x : Int) ∈ new → ∃ q : Nat, (q : Int) ∈ ks ∧ Up g q x) ∧ Nst g ks new
  | [], s, _ => ⟨[], by simp, by simp, Nst.nil _ _⟩
  | k :: r, s, h => by
    obtain ⟨n1, e1, h1, k1⟩ : ∃ n1, (stepV g.length rec s k).2 = s.2 ++ n1 ∧ (∀ x : Nat, (x : Int) ∈ n1 → ∃ q : Nat, (q : Int) = k ∧ Up g q x) ∧ Nst g [k] n1 := by
      unfold stepV
      split
      · rename_i hk
        obtain ⟨n1, e, h1, h2⟩ := h3 k.toNat s.1 s.2 hk.2.2 h.fuel h.len
        have e2 : ((k.toNat : Nat) : Int) = k := Int.toNat_of_nonneg hk.1
        rw [e2] at h2
        exact ⟨n1, e, fun x hx => ⟨k.toNat, e2, h1 x hx⟩, h2⟩
      · exact ⟨[], by simp, by simp, Nst.nil _ _⟩
    obtain ⟨n2, e2, h2, k2⟩ := all3 hr h3 r (h.step hr k)
    refine ⟨n1 ++ n2, by rw [List.foldl_cons, e2, e1, List.append_assoc], fun x hx => ?_, k1.app k2⟩
    rcases List.mem_append.1 hx with hx | hx
    · obtain ⟨q, e, hu⟩ := h1 x hx
      exact ⟨q, by rw [e]; simp, hu⟩
    · obtain ⟨q, e, hu⟩ := h2 x hx
      exact ⟨q, by simp [e], hu⟩
theorem down3 (g : List (List Int)) : ∀ f, Goes3 g f (downV g f)
  | 0 => fun p m l hp hf hl => by
    have := un_set hp
    omega
  | f + 1 => fun p m l hp hf hl => by
    obtain ⟨new, e, h1, h2⟩ := all3 (down_good g f) (down3 g f) (g.getD p []) (Dn.start (l := l) hp hf hl)
    have hup : ∀ x : Nat, (x : Int) ∈ new → Up g p x := fun x hx => by
      obtain ⟨q, hq, hu⟩ := h1 x hx
      exact (Up.step .refl hq).trans hu
    have hall : ∀ k z : Nat, (new ++ [(p : Int)])[k]? = some (z : Int) → Up g p z := fun k z hz => by
      rcases List.mem_append.1 (List.mem_of_getElem? hz) with h | h
      · exact hup z h
      · rw [List.mem_singleton] at h
        obtain rfl : z = p := by omega
        exact .refl
    refine ⟨new ++ [(p : Int)], ?_, fun x hx => ?_, ?_⟩
    · show ((g.getD p []).foldl (stepV g.length (downV g f)) (m.set p true, l)).2 ++ [(p : Int)] = _
      rw [e, List.append_assoc]
    · obtain ⟨k, hk⟩ := List.mem_iff_getElem?.1 hx
      exact hall k x hk
    · intro i x hx
      by_cases hi : i < new.length
      · rw [List.getElem?_append_left hi] at hx
        rcases h2 i x hx with ⟨j, y, k1, k2, k3, k4⟩ | k1
        · have hj := (List.getElem?_eq_some_iff.1 k2).1
          refine .inl ⟨j, y, k1, by rw [List.getElem?_append_left hj]; exact k2, k3, fun k z a1 a2 hz => ?_⟩
          rw [List.getElem?_append_left (by omega)] at hz
          exact k4 k z a1 a2 hz
        · exact .inl ⟨new.length, p, hi, by simp, k1, fun k z _ _ hz => hall k z hz⟩
      · rw [List.getElem?_append_right (by omega)] at hx
        exact .inr (List.mem_of_getElem? hx)
/-- a tree: each has one that leads to it at the most, and to 0 leads none. -/
structure Tr (t : List (List Int)) : Prop where
  one : ∀ x p q : Nat, (x : Int) ∈ t.getD p [] → (x : Int) ∈ t.getD q [] → p = q
  top : ∀ p : Nat, (0 : Int) ∉ t.getD p []
theorem contig {t : List (List Int)} (ht : Tr t) {L : List Int} (hL : Nst t [(0 : Int)] L) (hn : L.Nodup) {a d : Nat} (h : Up t a d) : ∀ i j : Nat, L[i]? = some (d : Int) → L[j]? = some (a : Int) → i ≤ j ∧ ∀ k z : Nat, i ≤ k → k ≤ j → L[k]? = some (z : Int) → Up t a z := by
  induction h with
  | refl =>
    intro i j h1 h2
    obtain rfl := nodup_at hn h1 h2
    refine ⟨Nat.le_refl _, fun k z k1 k2 hz => ?_⟩
    obtain rfl : k = i := by omega
    rw [h1] at hz
    injection hz with hz
    obtain rfl : a = z := by omega
    exact .refl
  | step hu hm ih =>
    rename_i b c
    intro i j h1 h2
    rcases hL i c h1 with ⟨j2, y, k1, k2, k3, k4⟩ | k1
    · obtain rfl := ht.one c y b k3 hm
      obtain ⟨a1, a2⟩ := ih j2 j k2 h2
      refine ⟨by omega, fun k z b1 b2 hz => ?_⟩
      by_cases hk : k ≤ j2
      · exact hu.trans (k4 k z b1 hk hz)
      · exact a2 k z (by omega) b2 hz
    · rw [List.mem_singleton] at k1
      rw [k1] at hm
      exact absurd hm (ht.top b)
theorem order_nst {t : List (List Int)} (h0 : t.length ≠ 0) : Nst t [(0 : Int)] (startV t).2 := by
  have hp : (List.replicate t.length false)[0]? = some false := by rw [List.getElem?_replicate, if_pos (by omega)]
  obtain ⟨new, h1, _, h3⟩ := down3 t t.length 0 (List.replicate t.length false) [] hp (by rw [un_none]; exact Nat.le_refl _) (by simp)
  have e : (startV t).2 = new := by
    have : (startV t).2 = [] ++ new := h1
    simpa using this
  rw [e]
  exact h3
/-- by places. -/
theorem up_pos {t : List (List Int)} (ht : Tr t) {a d : Nat} (ha : Come t a) (hd : Come t d) (h : Up t a d) : pos t a ≤ pos t d ∧ ∀ b : Nat, Come t b → pos t a ≤ pos t b → pos t b ≤ pos t d → Up t a b := by
  have h0 : t.length ≠ 0 := by have := ha.last.1; omega
  have hn : (startV t).2.Nodup := by
    have := (start_ok h0).nd
    exact (List.reverse_perm _).nodup_iff.1 this
  have idx : ∀ q : Nat, Come t q → ∃ i : Nat, (startV t).2[i]? = some (q : Int) := by
    intro q hq
    have hm := ord_mem.2 hq
    rw [order_start, List.mem_reverse] at hm
    exact List.mem_iff_getElem?.1 hm
  obtain ⟨i, hi⟩ := idx d hd
  obtain ⟨j, hj⟩ := idx a ha
  obtain ⟨k1, k2⟩ := contig ht (order_nst h0) hn h i j hi hj
  have e1 := (left_pos hi).2
  have e2 := (left_pos hj).2
  refine ⟨by omega, fun b hb b1 b2 => ?_⟩
  obtain ⟨k, hk⟩ := idx b hb
  have e3 := (left_pos hk).2
  exact k2 k b (by omega) (by omega) hk
end Go.Proofs.Ytiohngbmddfgfaa.Lp11
