/-
  Layer 12: what is live at first places: the least that the rules ask for, and a going through that comes to it. Plain.
-/
import Derived.Test.YtaeklfljibjpiaaLvNeed
import Derived.Test.YtaeklfljibjpiaaLvLink
namespace Go.Proofs.Ytaeklfljibjpiaa.Lv12
open Go.RowKit Api Mem Sh8 Go.Maps

/-- what is live at the first place of block i: what is needed in it, or behind it and not set on the way. -/
inductive Lv (E : List Edge) (P X G : Nat → Wd → Bool) : Nat → Wd → Prop
  | gen {i : Nat} {x : Wd} (h : G i x = true) : Lv E P X G i x
  | step {i j : Nat} {x : Wd} (he : (i, j) ∈ E) (hl : Lv E P X G j x) (hp : P j x = false) (hx : X i x = false) : Lv E P X G i x
/-- all sets, with these at first places. -/
def mix (S L : Nat → Wd → Bool) (x : Nat) : Wd → Bool := if x % 4 = 3 then L (x / 4) else S x
theorem mix_at (S L : Nat → Wd → Bool) (i : Nat) : mix S L (4 * i + 3) = L i := by
  unfold mix
  rw [if_pos (by omega), show (4 * i + 3) / 4 = i by omega]
theorem mix_ne (S L : Nat → Wd → Bool) {x : Nat} (h : x % 4 ≠ 3) : mix S L x = S x := if_neg h
theorem mix_upd (S L : Nat → Wd → Bool) (i : Nat) (T : Wd → Bool) : upd (mix S L) (4 * i + 3) T = mix S (upd L i T) := funext fun x => by
  by_cases e : x = 4 * i + 3
  · subst e
    rw [upd_at, mix_at, upd_at]
  · rw [upd_ne _ _ e]
    unfold mix
    by_cases e2 : x % 4 = 3
    · rw [if_pos e2, if_pos e2, upd_ne _ _ (by omega)]
    · rw [if_neg e2, if_neg e2]
theorem mix_self (S : Nat → Wd → Bool) : mix S (fun i => S (4 * i + 3)) = S := funext fun x => by
  unfold mix
  split
  · show S (4 * (x / 4) + 3) = S x
    rw [show 4 * (x / 4) + 3 = x by omega]
  · rfl
/-- the sources of the steps to a. -/
def srcs (E : List Edge) (a : Nat) : List Nat := (E.filter fun e => decide (e.2 = a)).map (·.1)
def dsts (E : List Edge) (a : Nat) : List Nat := (E.filter fun e => decide (e.1 = a)).map (·.2)
theorem LI_odd (E : List Edge) (a : Nat) : LI E (2 * a + 1) = (srcs E a).map (fun x : Nat => (x : Int)) := by
  unfold LI srcs
  rw [if_neg (by omega), show (2 * a + 1) / 2 = a by omega, List.map_map]
  rfl
theorem LI_even (E : List Edge) (a : Nat) : LI E (2 * a) = (dsts E a).map (fun x : Nat => (x : Int)) := by
  unfold LI dsts
  rw [if_pos (by omega), show (2 * a) / 2 = a by omega, List.map_map]
  rfl
theorem mem_srcs {E : List Edge} {a i : Nat} : i ∈ srcs E a ↔ (i, a) ∈ E := by
  unfold srcs
  rw [List.mem_map]
  constructor
  · rintro ⟨⟨p, q⟩, h, rfl⟩
    obtain ⟨h1, h2⟩ := List.mem_filter.1 h
    obtain rfl : q = a := of_decide_eq_true h2
    exact h1
  · exact fun h => ⟨(i, a), List.mem_filter.2 ⟨h, decide_eq_true rfl⟩, rfl⟩
theorem mem_dsts {E : List Edge} {a i : Nat} : i ∈ dsts E a ↔ (a, i) ∈ E := by
  unfold dsts
  rw [List.mem_map]
  constructor
  · rintro ⟨⟨p, q⟩, h, rfl⟩
    obtain ⟨h1, h2⟩ := List.mem_filter.1 h
    obtain rfl : p = a := of_decide_eq_true h2
    exact h1
  · exact fun h => ⟨(a, i), List.mem_filter.2 ⟨h, decide_eq_true rfl⟩, rfl⟩
/-- what holds between two blocks that are told: L is live, gr is new there, R are those that have something to tell; a has told bh to all that lead to it but for todo. -/
structure Spr (E : List Edge) (P X G : Nat → Wd → Bool) (n : Nat) (L : Nat → Wd → Bool) (gr : Nat → List Wd) (R : List Nat) (a : Nat) (bh : List Wd) (todo : List Nat) : Prop where
  low : ∀ i x, i < n → L i x = true → Lv E P X G i x
  gen : ∀ i x, i < n → G i x = true → L i x = true
  grL : ∀ i, i < n → ∀ x ∈ gr i, L i x = true
  nd : ∀ i, i < n → (gr i).Nodup
  told : ∀ i j x, (i, j) ∈ E → L j x = true → x ∉ gr j → P j x = false → X i x = false → L i x = true ∨ (j = a ∧ x ∈ bh ∧ i ∈ todo)
  rest : ∀ i, i < n → gr i ≠ [] → i ∈ R
  lt : ∀ i ∈ R, i < n
  bhL : ∀ x ∈ bh, Lv E P X G a x ∧ P a x = false
section
variable {E : List Edge} {P X G : Nat → Wd → Bool} {n : Nat} {L : Nat → Wd → Bool} {gr : Nat → List Wd} {R : List Nat} {a : Nat} {bh : List Wd} {todo : List Nat}
theorem Spr.start (hL : ∀ i, i < n → L i = G i) (hg : ∀ i, i < n → (gr i).Nodup ∧ ∀ x, x ∈ gr i ↔ G i x = true) (hE : ∀ e ∈ E, e.1 < n ∧ e.2 < n) (hR : ∀ i, i < n → gr i ≠ [] → i ∈ R) (hl : ∀ i ∈ R, i < n) : Spr E P X G n L gr R 0 [] [] :=
  ⟨fun i x hi h => .gen (by rw [← hL i hi]; exact h), fun i x hi h => by rw [hL i hi]; exact h, fun i hi x h => by rw [hL i hi]; exact ((hg i hi).2 x).1 h, fun i hi => (hg i hi).1, fun i j x he h1 h2 _ _ => absurd (((hg j (hE _ he).2).2 x).2 (by rw [← hL j (hE _ he).2]; exact h1)) h2, hR, hl, fun x h => (by cases h)⟩
theorem Spr.pop (h : Spr E P X G n L gr (R ++ [a]) 0 [] []) : Spr E P X G n L (upd gr a []) R a ((gr a).filter fun x => !P a x) (srcs E a) := by
  have ha : a < n := h.lt a (by simp)
  refine ⟨h.low, h.gen, fun i hi x hx => ?_, fun i hi => ?_, fun i j x he h1 h2 h3 h4 => ?_, fun i hi hne => ?_, fun i hi => h.lt i (by simp [hi]), fun x hx => ?_⟩
  · by_cases e : i = a
    · subst e; rw [upd_at] at hx; cases hx
    · rw [upd_ne _ _ e] at hx; exact h.grL i hi x hx
  · by_cases e : i = a
    · subst e; rw [upd_at]; exact List.nodup_nil
    · rw [upd_ne _ _ e]; exact h.nd i hi
  · by_cases e : j = a
    · subst e
      by_cases hx : x ∈ gr j
      · exact .inr ⟨rfl, List.mem_filter.2 ⟨hx, by simp [h3]⟩, mem_srcs.2 he⟩
      · rcases h.told i j x he h1 hx h3 h4 with q | ⟨_, q, _⟩
        · exact .inl q
        · cases q
    · rw [upd_ne _ _ e] at h2
      rcases h.told i j x he h1 h2 h3 h4 with q | ⟨_, q, _⟩
      · exact .inl q
      · cases q
  · by_cases e : i = a
    · subst e; rw [upd_at] at hne; exact absurd rfl hne
    · rw [upd_ne _ _ e] at hne
      rcases List.mem_append.1 (h.rest i hi hne) with q | q
      · exact q
      · exact absurd (List.mem_singleton.1 q) e
  · obtain ⟨q1, q2⟩ := List.mem_filter.1 hx
    exact ⟨h.low a x ha (h.grL a ha x q1), by simpa using q2⟩
theorem Spr.need {i : Nat} (h : Spr E P X G n L gr R a bh (i :: todo)) (hi : i < n) (he : (i, a) ∈ E) {L' : Wd → Bool} {add : List Wd} (hN : Ned (X i) (L i) L' bh add) {R' : List Nat} (hR : ∀ j ∈ R, j ∈ R') (hR2 : ∀ j ∈ R', j < n) (hR3 : gr i = [] → add ≠ [] → i ∈ R') : Spr E P X G n (upd L i L') (upd gr i (gr i ++ add)) R' a bh todo := by
  have mono : ∀ j x, L j x = true → upd L i L' j x = true := fun j x hx => by
    by_cases e : j = i
    · subst e; rw [upd_at]; exact (hN.iff x).2 (.inl hx)
    · rw [upd_ne _ _ e]; exact hx
  refine ⟨fun j x hj hx => ?_, fun j x hj hx => mono j x (h.gen j x hj hx), fun j hj x hx => ?_, fun j hj => ?_, fun k j x hkj h1 h2 h3 h4 => ?_, fun j hj hne => ?_, hR2, h.bhL⟩
  · by_cases e : j = i
    · subst e
      rw [upd_at] at hx
      rcases (hN.iff x).1 hx with q | q
      · exact h.low j x hj q
      · obtain ⟨q1, q2, _⟩ := hN.new x q
        exact .step he (h.bhL x q1).1 (h.bhL x q1).2 q2
    · rw [upd_ne _ _ e] at hx; exact h.low j x hj hx
  · by_cases e : j = i
    · subst e
      rw [upd_at] at hx
      rcases List.mem_append.1 hx with q | q
      · exact mono j x (h.grL j hj x q)
      · rw [upd_at]; exact (hN.iff x).2 (.inr q)
    · rw [upd_ne _ _ e] at hx; exact mono j x (h.grL j hj x hx)
  · by_cases e : j = i
    · subst e
      rw [upd_at, List.nodup_append]
      exact ⟨h.nd j hj, hN.nd, fun y hy z hz e => by
        subst e
        have := (hN.new y hz).2.2
        rw [h.grL j hj y hy] at this
        cases this⟩
    · rw [upd_ne _ _ e]; exact h.nd j hj
  · have hL : L j x = true ∧ x ∉ gr j := by
      by_cases e : j = i
      · subst e
        rw [upd_at] at h1 h2
        simp only [List.mem_append, not_or] at h2
        rcases (hN.iff x).1 h1 with q | q
        · exact ⟨q, h2.1⟩
        · exact absurd q h2.2
      · rw [upd_ne _ _ e] at h1 h2
        exact ⟨h1, h2⟩
    rcases h.told k j x hkj hL.1 hL.2 h3 h4 with q | ⟨rfl, q1, q2⟩
    · exact .inl (mono k x q)
    · rcases List.mem_cons.1 q2 with rfl | q2
      · rcases hN.all x q1 with q | q
        · rw [h4] at q; cases q
        · left; rw [upd_at]; exact q
      · exact .inr ⟨rfl, q1, q2⟩
  · by_cases e : j = i
    · subst e
      rw [upd_at] at hne
      by_cases e2 : gr j = []
      · rw [e2, List.nil_append] at hne
        exact hR3 e2 hne
      · exact hR j (h.rest j hj e2)
    · rw [upd_ne _ _ e] at hne
      exact hR j (h.rest j hj hne)
theorem Spr.done (h : Spr E P X G n L gr R a bh []) : Spr E P X G n L gr R 0 [] [] :=
  ⟨h.low, h.gen, h.grL, h.nd, fun i j x h0 h1 h2 h3 h4 => by
    rcases h.told i j x h0 h1 h2 h3 h4 with q | ⟨_, _, q⟩
    · exact .inl q
    · exact absurd q List.not_mem_nil, h.rest, h.lt, fun x h => absurd h List.not_mem_nil⟩
theorem Spr.fin (h : Spr E P X G n L gr [] 0 [] []) (hE : ∀ e ∈ E, e.1 < n ∧ e.2 < n) (hG : ∀ i x, G i x = true → i < n) : ∀ i x, i < n → (L i x = true ↔ Lv E P X G i x) := by
  have hgr : ∀ i, i < n → gr i = [] := fun i hi => by
    apply Classical.byContradiction
    intro hne
    have := h.rest i hi hne
    cases this
  refine fun i x hi => ⟨h.low i x hi, fun hl => ?_⟩
  clear hi
  induction hl with
  | gen hg => exact h.gen _ _ (hG _ _ hg) hg
  | step he hl hp hx ih =>
    rcases h.told _ _ _ he ih (by rw [hgr _ (hE _ he).2]; simp) hp hx with q | ⟨_, q, _⟩
    · exact q
    · cases q
end
/-- how much may still be told. -/
def mu (U : List Wd) (n : Nat) (L : Nat → Wd → Bool) : Nat := ((List.range n).map fun i => (U.filter fun x => !L i x).length).sum
theorem sum_le {α : Type} {f g : α → Nat} : ∀ {l : List α}, (∀ x ∈ l, f x ≤ g x) → (l.map f).sum ≤ (l.map g).sum
  | [], _ => Nat.le_refl _
  | a :: l, h => by
    have := sum_le (l := l) fun x hx => h x (by simp [hx])
    have := h a (by simp)
    simp only [List.map_cons, List.sum_cons]
    omega
theorem sum_lt {α : Type} {f g : α → Nat} : ∀ {l : List α} {y : α}, (∀ x ∈ l, f x ≤ g x) → y ∈ l → f y < g y → (l.map f).sum < (l.map g).sum
  | a :: l, y, h, hy, hlt => by
    have h1 := sum_le (l := l) fun x hx => h x (by simp [hx])
    have h2 := h a (by simp)
    simp only [List.map_cons, List.sum_cons]
    rcases List.mem_cons.1 hy with rfl | hy
    · omega
    · have := sum_lt (l := l) (fun x hx => h x (by simp [hx])) hy hlt
      omega
theorem filter_len_lt {p q : Wd → Bool} : ∀ {l : List Wd} {y : Wd}, (∀ x, p x = true → q x = true) → y ∈ l → p y = false → q y = true → (l.filter p).length < (l.filter q).length
  | a :: l, y, h, hy, h1, h2 => by
    have hle : (l.filter p).length ≤ (l.filter q).length := by
      rw [← List.countP_eq_length_filter, ← List.countP_eq_length_filter]
      exact List.countP_mono_left fun x _ hx => h x hx
    rcases List.mem_cons.1 hy with rfl | hy
    · rw [List.filter_cons_of_neg (by simp [h1]), List.filter_cons_of_pos h2, List.length_cons]
      omega
    · have := filter_len_lt h hy h1 h2
      by_cases e : p a = true
      · rw [List.filter_cons_of_pos e, List.filter_cons_of_pos (h a e)]
        simp only [List.length_cons]
        omega
      · rw [List.filter_cons_of_neg e]
        by_cases e2 : q a = true
        · rw [List.filter_cons_of_pos e2, List.length_cons]
          omega
        · rw [List.filter_cons_of_neg e2]
          exact this
theorem mu_need {U : List Wd} {n i : Nat} {X : Wd → Bool} {L : Nat → Wd → Bool} {L' : Wd → Bool} {bh add : List Wd} (hi : i < n) (hN : Ned X (L i) L' bh add) (hbU : ∀ x ∈ bh, x ∈ U) : mu U n (upd L i L') + (if add = [] then 0 else 1) ≤ mu U n L := by
  have hle : ∀ j ∈ List.range n, (U.filter fun x => !upd L i L' j x).length ≤ (U.filter fun x => !L j x).length := fun j _ => by
    rw [← List.countP_eq_length_filter, ← List.countP_eq_length_filter]
    refine List.countP_mono_left fun x _ hx => ?_
    by_cases e : j = i
    · subst e
      rw [upd_at] at hx
      cases e2 : L j x with
      | false => rfl
      | true => rw [(hN.iff x).2 (.inl e2)] at hx; cases hx
    · rwa [upd_ne _ _ e] at hx
  cases add with
  | nil =>
    rw [if_pos rfl, Nat.add_zero]
    exact sum_le hle
  | cons y r =>
    rw [if_neg (by simp)]
    obtain ⟨q1, _, q3⟩ := hN.new y (by simp)
    refine sum_lt hle (List.mem_range.2 hi) ?_
    refine filter_len_lt (fun x hx => ?_) (hbU y q1) (y := y) ?_ (by simp [q3])
    · rw [upd_at] at hx
      cases e2 : L i x with
      | false => rfl
      | true => rw [(hN.iff x).2 (.inl e2)] at hx; cases hx
    · rw [upd_at, (hN.iff y).2 (.inr (by simp))]
      rfl
theorem mu_top (U : List Wd) (n : Nat) (L : Nat → Wd → Bool) : mu U n L ≤ n * U.length := by
  have : mu U n L ≤ ((List.range n).map fun _ => U.length).sum := sum_le fun i _ => List.length_filter_le _ _
  rwa [List.map_const', List.sum_replicate_nat, List.length_range] at this
end Go.Proofs.Ytaeklfljibjpiaa.Lv12
