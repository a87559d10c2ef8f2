/-
  Layer 11, plainly: what package loops' overlook tells: where what a point dominates stands.
-/
import Derived.Test.YtiohngbmddfgfaaLpTree
import Derived.Test.YtiohngbmddfgfaaDomR
import Derived.Test.YtiohngbmddfgfaaDomK
namespace Go.Proofs.Ytiohngbmddfgfaa.Lp11
open Fl9 Dm10

/-- the tree of nearest ones. -/
abbrev treeV (g : List (List Int)) : List (List Int) := kidsV (nearestV g)
theorem tree_len (g : List (List Int)) : (treeV g).length = g.length := by rw [kids_len, nearest_len]
theorem kid_iff {g : List (List Int)} {x p : Nat} : (x : Int) ∈ (treeV g).getD p [] ↔ p < g.length ∧ x < g.length ∧ (nearestV g)[x]? = some (p : Int) := by
  by_cases hp : p < g.length
  · rw [List.getD_eq_getElem?_getD, kids_at (by rw [nearest_len]; exact hp), Option.getD_some]
    unfold kv
    rw [List.mem_map]
    constructor
    · rintro ⟨q, hq, e⟩
      obtain rfl : q = x := by omega
      rw [List.mem_filter, List.mem_range, nearest_len, decide_eq_true_iff] at hq
      exact ⟨hp, hq⟩
    · rintro ⟨_, h1, h2⟩
      exact ⟨x, by rw [List.mem_filter, List.mem_range, nearest_len, decide_eq_true_iff]; exact ⟨h1, h2⟩, rfl⟩
  · rw [List.getD_eq_getElem?_getD, List.getElem?_eq_none (by rw [tree_len]; omega)]
    simp [hp]
theorem tree_tr {g : List (List Int)} (hf : Fix g (nearestV g)) : Tr (treeV g) := by
  refine ⟨fun x p q h1 h2 => ?_, fun p h => ?_⟩
  · have e1 := (kid_iff.1 h1).2.2
    have e2 := (kid_iff.1 h2).2.2
    rw [e1] at e2
    injection e2 with e2
    omega
  · have h1 := (kid_iff (g := g) (x := 0) (p := p)).1 h
    have h2 := hf.top9 0 h1.2.1 (.inl rfl)
    have h3 := h1.2.2
    rw [h2] at h3
    injection h3 with h3
    omega
theorem anc_tree {g : List (List Int)} (hu : Ups9 g (nearestV g)) {a b : Nat} : Anc (nearestV g) a b ↔ Up (treeV g) a b := by
  constructor
  · intro h
    induction h with
    | refl => exact .refl
    | @up b c e _ ih =>
      have hb := (List.getElem?_eq_some_iff.1 e).1
      rw [nearest_len] at hb
      exact .step ih (kid_iff.2 ⟨(hu b c e).2.2.1.last.1, hb, e⟩)
  · intro h
    induction h with
    | refl => exact .refl
    | step _ h1 ih => exact .up (kid_iff.1 h1).2.2 ih
theorem up_come {g : List (List Int)} {a b : Nat} (ha : Come (treeV g) a) (h : Up (treeV g) a b) : Come (treeV g) b := by
  induction h with
  | refl => exact ha
  | step _ h1 ih => exact .step ih h1 (by rw [tree_len]; exact (kid_iff.1 h1).2.1) trivial
theorem tree_come {g : List (List Int)} (hf : Fix g (nearestV g)) (hu : Ups9 g (nearestV g)) {q : Nat} : Come (treeV g) q ↔ Come g q := by
  constructor
  · intro h
    induction h with
    | refl h1 _ => exact .refl (by rw [tree_len] at h1; exact h1) trivial
    | step _ h1 _ _ _ => exact (hu _ _ (kid_iff.1 h1).2.2).1
  · intro h
    have hd : Dom g 0 q := ⟨h, h.start.1, fun w => w.start.2 rfl⟩
    exact up_come (.refl (by rw [tree_len]; exact h.start.1) trivial) ((anc_tree hu).1 ((hf.dom h).2 hd))
theorem up_split {t : List (List Int)} {a d : Nat} (h : Up t a d) : a = d ∨ ∃ c : Nat, (c : Int) ∈ t.getD a [] ∧ Up t c d := by
  induction h with
  | refl => exact .inl rfl
  | step _ h1 ih =>
    rcases ih with e | ⟨c, h2, h3⟩
    · subst e; exact .inr ⟨_, h1, .refl⟩
    · exact .inr ⟨c, h2, .step h3 h1⟩
/-- first and last, by which package loops tells what dominates what. -/
structure View (g : List (List Int)) (fi la : List Int) : Prop where
  fl : fi.length = g.length
  ll : la.length = g.length
  dom : ∀ a b : Nat, Come g a → Come g b → ((fi.getD a 0 ≤ fi.getD b 0 ∧ fi.getD b 0 ≤ la.getD a 0) ↔ Dom g a b)
/-- gone back through the order of the tree as far as place k. -/
structure Vw (g : List (List Int)) (k : Nat) (fi la : List Int) : Prop where
  fl : fi.length = g.length
  ll : la.length = g.length
  fs : ∀ q : Nat, Come g q → k ≤ pos (treeV g) q → fi[q]? = some (pos (treeV g) q : Int)
  lo : ∀ q : Nat, Come g q → ∃ x, la[q]? = some x ∧ (x = -1 ∨ ∃ d : Nat, Come g d ∧ Up (treeV g) q d ∧ x = (pos (treeV g) d : Int)) ∧ ∀ c d : Nat, (c = q ∨ (c : Int) ∈ (treeV g).getD q []) → k ≤ pos (treeV g) c → Up (treeV g) c d → (pos (treeV g) d : Int) ≤ x
theorem Vw.start {g : List (List Int)} (hf : Fix g (nearestV g)) (hu : Ups9 g (nearestV g)) : Vw g (orderV (treeV g)).length (List.replicate g.length (-1)) (List.replicate g.length (-1)) := by
  have hlt : ∀ q : Nat, Come g q → pos (treeV g) q < (orderV (treeV g)).length := fun q hq => pos_lt ((tree_come hf hu).2 hq)
  refine ⟨by simp, by simp, fun q hq hk => by have := hlt q hq; omega, fun q hq => ⟨-1, by rw [List.getElem?_replicate, if_pos hq.last.1], .inl rfl, fun c d hc hk _ => ?_⟩⟩
  have : pos (treeV g) c < (orderV (treeV g)).length := by
    rcases hc with rfl | hc
    · exact hlt c hq
    · exact hlt c (hu _ _ (kid_iff.1 hc).2.2).1
  omega
theorem kid_pos {g : List (List Int)} (hf : Fix g (nearestV g)) (hu : Ups9 g (nearestV g)) {p q : Nat} (h : (q : Int) ∈ (treeV g).getD p []) : Come g p ∧ Come g q ∧ pos (treeV g) p < pos (treeV g) q := by
  obtain ⟨h1, h2, h3, h4⟩ := hu _ _ (kid_iff.1 h).2.2
  have hp := (tree_come hf hu).2 h3
  have hq := (tree_come hf hu).2 h1
  have h5 := (up_pos (tree_tr hf) hp hq (.step .refl h)).1
  refine ⟨h3, h1, ?_⟩
  rcases Nat.lt_or_ge (pos (treeV g) p) (pos (treeV g) q) with k | k
  · exact k
  · have := pos_inj hp hq (by omega)
    subst this
    omega
theorem Vw.own {g : List (List Int)} (hf : Fix g (nearestV g)) (hu : Ups9 g (nearestV g)) {k : Nat} {fi la : List Int} (h : Vw g (k + 1) fi la) {q : Nat} (hq : Come g q) (hk : pos (treeV g) q = k) {x : Int} (hx : la[q]? = some x) :
    (∃ d : Nat, Come g d ∧ Up (treeV g) q d ∧ max x (k : Int) = (pos (treeV g) d : Int)) ∧ ∀ d : Nat, Up (treeV g) q d → (pos (treeV g) d : Int) ≤ max x (k : Int) := by
  obtain ⟨x', hx', hA, hB⟩ := h.lo q hq
  rw [hx] at hx'
  injection hx' with hx'
  subst hx'
  constructor
  · rcases hA with e | ⟨d, h1, h2, e⟩
    · exact ⟨q, hq, .refl, by omega⟩
    · rcases Int.le_total x (k : Int) with k1 | k1
      · exact ⟨q, hq, .refl, by omega⟩
      · exact ⟨d, h1, h2, by omega⟩
  · intro d hd
    rcases up_split hd with e | ⟨c, hc, hcd⟩
    · subst e; omega
    · have h1 := (kid_pos hf hu hc).2.2
      have := hB c d (.inr hc) (by omega) hcd
      omega
theorem Vw.fset {g : List (List Int)} (hf : Fix g (nearestV g)) (hu : Ups9 g (nearestV g)) {k : Nat} {fi la : List Int} (h : Vw g (k + 1) fi la) {q : Nat} (hq : Come g q) (hk : pos (treeV g) q = k) : ∀ r : Nat, Come g r → k ≤ pos (treeV g) r → (fi.set q (k : Int))[r]? = some (pos (treeV g) r : Int) := by
  intro r hr hkr
  by_cases e : q = r
  · subst e
    rw [List.getElem?_set_self (by rw [h.fl]; exact hq.last.1), hk]
  · rw [List.getElem?_set_ne e]
    refine h.fs r hr ?_
    have : pos (treeV g) q ≠ pos (treeV g) r := fun e2 => e (pos_inj ((tree_come hf hu).2 hq) ((tree_come hf hu).2 hr) e2)
    omega
theorem Vw.zero {g : List (List Int)} (hf : Fix g (nearestV g)) (hu : Ups9 g (nearestV g)) {k : Nat} {fi la : List Int} (h : Vw g (k + 1) fi la) (hq : Come g 0) (hk : pos (treeV g) 0 = k) {x : Int} (hx : la[0]? = some x) :
    Vw g k (fi.set 0 (k : Int)) (la.set 0 (max x (k : Int))) := by
  obtain ⟨h1, h2⟩ := h.own hf hu hq hk hx
  refine ⟨by simp [h.fl], by simp [h.ll], h.fset hf hu hq hk, fun r hr => ?_⟩
  by_cases e : (0 : Nat) = r
  · subst e
    refine ⟨max x (k : Int), by rw [List.getElem?_set_self (by rw [h.ll]; exact hq.last.1)], .inr h1, fun c d hc hkc hd => ?_⟩
    rcases hc with rfl | hc
    · exact h2 d hd
    · exact h2 d ((Up.step .refl hc).trans hd)
  · obtain ⟨y, hy, hA, hB⟩ := h.lo r hr
    refine ⟨y, by rw [List.getElem?_set_ne e]; exact hy, hA, fun c d hc hkc hd => hB c d hc ?_ hd⟩
    have hc0 : c ≠ 0 := by
      rcases hc with rfl | hc
      · exact fun e2 => e e2.symm
      · rintro rfl
        exact (tree_tr hf).top _ hc
    have hcc : Come g c := by
      rcases hc with rfl | hc
      · exact hr
      · exact (kid_pos hf hu hc).2.1
    have : pos (treeV g) c ≠ pos (treeV g) 0 := fun e2 => hc0 (pos_inj ((tree_come hf hu).2 hcc) ((tree_come hf hu).2 hq) e2)
    omega
theorem Vw.step {g : List (List Int)} (hf : Fix g (nearestV g)) (hu : Ups9 g (nearestV g)) {k : Nat} {fi la : List Int} (h : Vw g (k + 1) fi la) {q p : Nat} (hq : Come g q) (hk : pos (treeV g) q = k) (hp : (nearestV g)[q]? = some (p : Int)) {x y : Int} (hx : la[q]? = some x) (hy : la[p]? = some y) :
    Vw g k (fi.set q (k : Int)) ((la.set q (max x (k : Int))).set p (max y (max x (k : Int)))) := by
  obtain ⟨h1, h2⟩ := h.own hf hu hq hk hx
  have hkid : (q : Int) ∈ (treeV g).getD p [] := kid_iff.2 ⟨(hu _ _ hp).2.2.1.last.1, hq.last.1, hp⟩
  obtain ⟨hpc, _, hpp⟩ := kid_pos hf hu hkid
  have hne : p ≠ q := fun e => by subst e; omega
  refine ⟨by simp [h.fl], by simp [h.ll], h.fset hf hu hq hk, fun r hr => ?_⟩
  by_cases e : p = r
  · subst e
    obtain ⟨y', hy', hA, hB⟩ := h.lo p hr
    rw [hy] at hy'
    injection hy' with hy'
    subst hy'
    refine ⟨max y (max x (k : Int)), by rw [List.getElem?_set_self (by rw [List.length_set, h.ll]; exact hpc.last.1)], .inr ?_, fun c d hc hkc hd => ?_⟩
    · obtain ⟨d, d1, d2, d3⟩ := h1
      rcases Int.le_total y (max x (k : Int)) with k1 | k1
      · exact ⟨d, d1, (Up.step .refl hkid).trans d2, by omega⟩
      · rcases hA with e | ⟨d', e1, e2, e3⟩
        · omega
        · exact ⟨d', e1, e2, by omega⟩
    · rcases hc with rfl | hc
      · omega
      · by_cases ec : c = q
        · subst ec
          have := h2 d hd
          omega
        · have hcc := (kid_pos hf hu hc).2.1
          have : pos (treeV g) c ≠ pos (treeV g) q := fun e2 => ec (pos_inj ((tree_come hf hu).2 hcc) ((tree_come hf hu).2 hq) e2)
          have := hB c d (.inr hc) (by omega) hd
          omega
  · rw [List.getElem?_set_ne e]
    by_cases e2 : q = r
    · subst e2
      refine ⟨max x (k : Int), by rw [List.getElem?_set_self (by rw [h.ll]; exact hq.last.1)], .inr h1, fun c d hc hkc hd => ?_⟩
      rcases hc with rfl | hc
      · exact h2 d hd
      · exact h2 d ((Up.step .refl hc).trans hd)
    · obtain ⟨z, hz, hA, hB⟩ := h.lo r hr
      refine ⟨z, by rw [List.getElem?_set_ne e2]; exact hz, hA, fun c d hc hkc hd => hB c d hc ?_ hd⟩
      have hcq : c ≠ q := by
        rcases hc with rfl | hc
        · exact fun e3 => e2 e3.symm
        · rintro rfl
          exact e ((tree_tr hf).one _ _ _ hkid hc)
      have hcc : Come g c := by
        rcases hc with rfl | hc
        · exact hr
        · exact (kid_pos hf hu hc).2.1
      have : pos (treeV g) c ≠ pos (treeV g) q := fun e3 => hcq (pos_inj ((tree_come hf hu).2 hcc) ((tree_come hf hu).2 hq) e3)
      omega
theorem Vw.view {g : List (List Int)} (hf : Fix g (nearestV g)) (hu : Ups9 g (nearestV g)) {fi la : List Int} (h : Vw g 0 fi la) : View g fi la := by
  refine ⟨h.fl, h.ll, fun a b ha hb => ?_⟩
  have ea := h.fs a ha (Nat.zero_le _)
  have eb := h.fs b hb (Nat.zero_le _)
  obtain ⟨x, hx, hA, hB⟩ := h.lo a ha
  rw [List.getD_eq_getElem?_getD, List.getD_eq_getElem?_getD, List.getD_eq_getElem?_getD, ea, eb, hx, Option.getD_some, Option.getD_some, Option.getD_some]
  have hta := (tree_come hf hu).2 ha
  have htb := (tree_come hf hu).2 hb
  constructor
  · rintro ⟨h1, h2⟩
    rcases hA with e | ⟨d, d1, d2, e⟩
    · omega
    · exact (hf.dom hb).1 ((anc_tree hu).2 ((up_pos (tree_tr hf) hta ((tree_come hf hu).2 d1) d2).2 b htb (by omega) (by omega)))
  · intro hd
    have hup := (anc_tree hu).1 ((hf.dom hb).2 hd)
    have h1 := (up_pos (tree_tr hf) hta htb hup).1
    have h2 := hB a b (.inl rfl) (Nat.zero_le _) hup
    exact ⟨by omega, h2⟩
end Go.Proofs.Ytiohngbmddfgfaa.Lp11
