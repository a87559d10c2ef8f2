/-
  Layer 8, plain: going on with a stack from the first block finds just what can be come to.
-/
import Derived.Test.YtdgmdpphimenjaaDoorShP
namespace Go.Proofs.YtdgmdpphimenjaaDoor.Sh8
open Api

def cntT : List Bool → Nat
  | [] => 0
  | b :: r => (if b then 1 else 0) + cntT r
theorem cnt_le : ∀ C : List Bool, cntT C ≤ C.length
  | [] => Nat.le_refl _
  | b :: r => by
    have := cnt_le r
    unfold cntT
    simp only [List.length_cons]
    split <;> omega
theorem cnt_set : ∀ {C : List Bool} {p : Nat}, C[p]? = some false → cntT (C.set p true) = cntT C + 1
  | [], p, h => by simp at h
  | b :: r, 0, h => by
    simp at h
    subst h
    simp [cntT]
    omega
  | b :: r, p + 1, h => by
    have := cnt_set (C := r) (p := p) (by simpa using h)
    simp only [List.set_cons_succ, cntT, this]
    omega
theorem cnt_same : ∀ {C : List Bool} {p : Nat}, C[p]? = some true → C.set p true = C
  | [], p, h => by simp at h
  | b :: r, 0, h => by
    simp at h
    subst h
    rfl
  | b :: r, p + 1, h => by
    rw [List.set_cons_succ, cnt_same (C := r) (by simpa using h)]
theorem cnt_all : ∀ {C : List Bool}, cntT C = C.length ↔ ∀ p, p < C.length → C[p]? = some true
  | [] => by simp [cntT]
  | b :: r => by
    have h1 := cnt_le r
    have h2 := cnt_all (C := r)
    constructor
    · intro h
      unfold cntT at h
      simp only [List.length_cons] at h
      cases b with
      | false => simp at h; omega
      | true =>
        have h3 := h2.1 (by simp at h; omega)
        intro p hp
        cases p with
        | zero => rfl
        | succ p => simpa using h3 p (by simpa using hp)
    · intro h
      have h0 := h 0 (by simp)
      simp at h0
      subst h0
      have := h2.2 fun p hp => by have := h (p + 1) (by simpa using hp); simpa using this
      simp [cntT, this]
      omega
theorem cnt_false : ∀ n, cntT (List.replicate n false) = 0
  | 0 => rfl
  | n + 1 => by simp [List.replicate_succ, cntT, cnt_false n]
theorem set_true {C : List Bool} {p q : Nat} (h : C[q]? = some true) : (C.set p true)[q]? = some true := by
  by_cases e : p = q
  · subst e
    rw [List.getElem?_set_self (List.getElem?_eq_some_iff.1 h).1]
  · rw [List.getElem?_set_ne e]; exact h
theorem of_set {C : List Bool} {p q : Nat} (h : (C.set p true)[q]? = some true) (hne : q ≠ p) : C[q]? = some true := by
  rwa [List.getElem?_set_ne (fun e => hne e.symm)] at h

/-- What the search knows: cur: the block that is gone through, and the names of its end that are done. -/
structure Dfs (bl : List Bl) (C : List Bool) (S : List Nat) (cur : Option (Nat × List Wd)) : Prop where
  len : C.length = bl.length
  zero : C[0]? = some true
  sound : ∀ (p : Nat) (x : Wd), C[p]? = some true → (names bl)[p]? = some x → Reach bl x
  stk : ∀ (p : Nat), p ∈ S → C[p]? = some true
  cnt : S.length ≤ cntT C
  closed : ∀ (i : Nat) (b : Bl), bl[i]? = some b → C[i]? = some true → i ∉ S → (∀ c, cur = some c → i ≠ c.1) → ∀ x ∈ b.fin.dest, ∀ (p : Nat), plc (names bl) x = some p → C[p]? = some true
  part : ∀ c, cur = some c → C[c.1]? = some true ∧ ∀ x ∈ c.2, ∀ (p : Nat), plc (names bl) x = some p → C[p]? = some true
variable {bl : List Bl} {C : List Bool} {S : List Nat} {cur : Option (Nat × List Wd)}
theorem dfs_start (h : 0 < bl.length) : Dfs bl ((List.replicate bl.length false).set 0 true) [0] none := by
  have hz : (List.replicate bl.length false)[0]? = some false := by simp [h]
  have hzero : ((List.replicate bl.length false).set 0 true)[0]? = some true := List.getElem?_set_self (by simpa using h)
  refine ⟨by simp, hzero, fun p x hp hx => ?_, fun p hp => ?_, by rw [cnt_set hz]; simp, fun i b hb hi hn => ?_, fun c e => by cases e⟩
  · by_cases e : p = 0
    · subst e
      exact reach_zero hx
    · have := of_set hp e
      have h2 := List.mem_of_getElem? this
      have := (List.mem_replicate.1 h2).2
      cases this
  · simp at hp
    subst hp
    exact hzero
  · by_cases e : i = 0
    · exact absurd (by simp [e]) hn
    · have h2 := List.mem_of_getElem? (of_set hi e)
      have := (List.mem_replicate.1 h2).2
      cases this
theorem Dfs.pop {a : Nat} (h : Dfs bl C (S ++ [a]) none) : Dfs bl C S (some (a, [])) :=
  ⟨h.len, h.zero, h.sound, fun p hp => h.stk p (by simp [hp]), by have := h.cnt; simp at this; omega,
    fun i b hb hi hn hc => h.closed i b hb hi (by simp only [List.mem_append, List.mem_singleton, not_or]; exact ⟨hn, hc _ rfl⟩) (fun c e => by cases e),
    fun c e => by cases e; exact ⟨h.stk a (by simp), fun x hx => by cases hx⟩⟩
theorem Dfs.skip {a p : Nat} {d : List Wd} {x : Wd} (h : Dfs bl C S (some (a, d))) (hp : plc (names bl) x = some p) (hc : C[p]? = some true) : Dfs bl C S (some (a, d ++ [x])) :=
  ⟨h.len, h.zero, h.sound, h.stk, h.cnt, fun i b hb hi hn hne => h.closed i b hb hi hn (fun c e => by cases e; exact hne (a, d ++ [x]) rfl),
    fun c e => by
      cases e
      refine ⟨(h.part _ rfl).1, fun y hy q hq => ?_⟩
      rcases List.mem_append.1 hy with hy | hy
      · exact (h.part _ rfl).2 y hy q hq
      · simp at hy
        subst hy
        rw [hp] at hq
        cases hq
        exact hc⟩
theorem Dfs.push {a p : Nat} {d : List Wd} {x : Wd} {b : Bl} (h : Dfs bl C S (some (a, d))) (hb : bl[a]? = some b) (hx : x ∈ b.fin.dest) (hp : plc (names bl) x = some p) (hc : C[p]? = some false) : Dfs bl (C.set p true) (S ++ [p]) (some (a, d ++ [x])) := by
  have hself : (C.set p true)[p]? = some true := List.getElem?_set_self (List.getElem?_eq_some_iff.1 hc).1
  have hR : Reach bl x := .step (List.mem_of_getElem? hb) (h.sound a _ (h.part _ rfl).1 (names_at hb)) hx
  refine ⟨by simp [h.len], set_true h.zero, fun q y hq hy => ?_, fun q hq => ?_, by rw [cnt_set hc]; have := h.cnt; simp; omega, fun i c hb' hi hn hne y hy q hq => ?_, fun c e => ?_⟩
  · by_cases e : q = p
    · subst e
      have := plc_at hp
      rw [hy] at this
      cases this
      exact hR
    · exact h.sound q y (of_set hq e) hy
  · rcases List.mem_append.1 hq with hq | hq
    · exact set_true (h.stk q hq)
    · simp at hq
      subst hq
      exact hself
  · have e : i ≠ p := fun e => hn (by simp [e])
    exact set_true (h.closed i c hb' (of_set hi e) (fun hh => hn (by simp [hh])) (fun c e => by cases e; exact hne (a, d ++ [x]) rfl) y hy q hq)
  · cases e
    refine ⟨set_true (h.part _ rfl).1, fun y hy q hq => ?_⟩
    rcases List.mem_append.1 hy with hy | hy
    · exact set_true ((h.part _ rfl).2 y hy q hq)
    · simp at hy
      subst hy
      rw [hp] at hq
      cases hq
      exact hself
theorem Dfs.done {a : Nat} {b : Bl} (h : Dfs bl C S (some (a, b.fin.dest))) (hb : bl[a]? = some b) : Dfs bl C S none :=
  ⟨h.len, h.zero, h.sound, h.stk, h.cnt, fun i c hc hi hn _ x hx p hp => by
    by_cases e : i = a
    · subst e
      rw [hb] at hc
      cases hc
      exact (h.part _ rfl).2 x hx p hp
    · exact h.closed i c hc hi hn (fun c e2 => by cases e2; exact e) x hx p hp, fun c e => by cases e⟩
theorem all_true (hn : (names bl).Nodup) (hl : C.length = bl.length) (h0 : C[0]? = some true) (hc : ∀ (i : Nat) (b : Bl), bl[i]? = some b → C[i]? = some true → ∀ x ∈ b.fin.dest, ∀ (p : Nat), plc (names bl) x = some p → C[p]? = some true) (h : ∀ b ∈ bl, Reach bl b.name) : ∀ p, p < C.length → C[p]? = some true := by
  intro p hp
  obtain ⟨b, hb⟩ : ∃ b, bl[p]? = some b := ⟨_, List.getElem?_eq_getElem (by omega)⟩
  exact reach_in hn (fun p => C[p]? = some true) h0 (fun i k b x hb hi hx hk => hc i b hb hi x hx k (plc_nodup hn hk)) (h b (List.mem_of_getElem? hb)) p (names_at hb)
theorem Dfs.fin (h : Dfs bl C [] none) (hn : (names bl).Nodup) : cntT C = bl.length ↔ ∀ b ∈ bl, Reach bl b.name := by
  rw [← h.len, cnt_all]
  constructor
  · intro ha b hb
    obtain ⟨i, hi, e⟩ := List.mem_iff_getElem.1 hb
    have hi2 : bl[i]? = some b := by rw [List.getElem?_eq_getElem hi, e]
    exact h.sound i _ (ha i (by rw [h.len]; exact hi)) (names_at hi2)
  · exact all_true hn h.len h.zero fun i b hb hi => h.closed i b hb hi (by simp) (fun c e => by cases e)
end Go.Proofs.YtdgmdpphimenjaaDoor.Sh8
