/-
  A region that draws its order, by what holds of each of its operations once it is done. No program is named here.
-/
import Derived.StillTailTactics
import Derived.RegionTactic
import Derived.Test.YtaeklfljibjpiaaMem
namespace Go.Proofs.Ytaeklfljibjpiaa.Facts
open Go.RowKit
variable {P : Program} {md : Region.Mode} {ops : Array Oper} {Q : Exit → Go.Act → World → Prop}
def upd (f : Nat → Value) (i : Nat) (a : Value) (j : Nat) : Value := if j = i then a else f j
theorem count_lt {p q : Nat → Bool} : ∀ {l : List Nat} {j : Nat}, (∀ i, q i = true → p i = true) → j ∈ l → p j = true → q j = false → l.countP q < l.countP p
  | a :: l, j, h, hj, hp, hq => by
    have hle : l.countP q ≤ l.countP p := List.countP_mono_left fun x _ hx => h x hx
    rw [List.countP_cons, List.countP_cons]
    by_cases e : a = j
    · subst e
      rw [if_pos hp, if_neg (by rw [hq]; simp)]
      omega
    · have := count_lt h (List.mem_of_ne_of_mem (Ne.symm e) hj) hp hq
      by_cases e1 : q a = true
      · rw [if_pos e1, if_pos (h a e1)]
        omega
      · rw [if_neg e1]
        split <;> omega
/-- how many are still to come. -/
def left (n : Nat) (listed : Array Bool) : Nat := (List.range n).countP fun j => !listed.getD j false
theorem left_lt {n j : Nat} {listed : Array Bool} (hs : listed.size = n) (hj : j < n) (hl : listed.getD j true = false) : left n (listed.setIfInBounds j true) < left n listed := by
  unfold left
  have hg : listed.getD j false = false := by
    rw [Array.getD_eq_getD_getElem?] at hl ⊢
    rw [Array.getElem?_eq_getElem (by omega)] at hl ⊢
    simpa using hl
  refine count_lt (j := j) (fun i hi => ?_) (List.mem_range.2 hj) (by simp [hg]) ?_
  · by_cases e : j = i
    · subst e
      simp [Array.getD_eq_getD_getElem?, Array.getElem?_setIfInBounds, hs, hj] at hi
    · rwa [getD_set_ne false e] at hi
  · simp [Array.getD_eq_getD_getElem?, Array.getElem?_setIfInBounds, hs, hj]
theorem some_ready {listed : Array Bool} (hs : listed.size = ops.size) (hac : ∀ (j : Nat) (o : Oper), ops[j]? = some o → ∀ x ∈ o.after, x.on < j) : ∀ j : Nat, j < ops.size → listed.getD j true = false → Region.ready md ops listed ≠ [] := by
  intro j
  induction j using Nat.strongRecOn with
  | _ j ih =>
    intro hj hl
    obtain ⟨o, ho⟩ : ∃ o, ops[j]? = some o := ⟨_, Array.getElem?_eq_getElem hj⟩
    by_cases hall : ∀ x ∈ o.after, Region.binds md x = true → listed.getD x.on false = true
    · intro h0
      have : j ∈ Region.ready md ops listed := mem_ready.2 ⟨hl, o, ho, hall⟩
      rw [h0] at this
      cases this
    · have : ∃ x, x ∈ o.after ∧ Region.binds md x = true ∧ ¬ listed.getD x.on false = true := by
        apply Classical.byContradiction
        intro h
        apply hall
        intro x hx hb
        apply Classical.byContradiction
        intro h2
        exact h ⟨x, hx, hb, h2⟩
      obtain ⟨x, hx, hb, hl2⟩ := this
      have hxj := hac j o ho x hx
      refine ih x.on hxj (by omega) ?_
      rw [Array.getD_eq_getD_getElem?] at hl2 ⊢
      rw [Array.getElem?_eq_getElem (by omega)] at hl2 ⊢
      simpa using hl2
theorem wpAny_facts (mk : (Nat → Value) → Go.Act) (n : Nat) (hn : ops.size = n) (dst : Nat → Nat) (fact : Nat → Value → World → Prop) (Bs : (Nat → Value) → World → Prop) (deps : Nat → List Nat)
    (hac : ∀ (j : Nat) (o : Oper), ops[j]? = some o → ∀ x ∈ o.after, x.on < j) (hd : ∀ j, j < n → ∀ e ∈ deps j, ∃ o, ops[j]? = some o ∧ ∃ x ∈ o.after, Region.binds md x = true ∧ x.on = e) (hdn : ∀ j, j < n → ∀ e ∈ deps j, e < n)
    (hops : ∀ j, j < n → ∀ (F : Nat → Value) (w : World) (K : Go.Act → World → Prop), Bs F w → (∀ e ∈ deps j, fact e (F (dst e)) w) →
      (∀ v w', Bs (upd F (dst j) v) w' → (∀ e, e < n → e ≠ j → j ∉ deps e → ∀ u, fact e u w → fact e u w') → fact j v w' → (∀ e, e < n → e ≠ j → j ∉ deps e → upd F (dst j) v (dst e) = F (dst e)) → K (mk (upd F (dst j) v)) w') → wpOp P ops Q j K (mk F) w)
    (hend : ∀ F w, Bs F w → (∀ j, j < n → fact j (F (dst j)) w) → Q .normal (mk F) w) :
    ∀ (fuel : Nat) (listed : Array Bool) (F : Nat → Value) (w : World), listed.size = n → left n listed ≤ fuel → (∀ e, e < n → listed.getD e true = true → ∀ x ∈ deps e, listed.getD x true = true) → Bs F w → (∀ j, j < n → listed.getD j true = true → fact j (F (dst j)) w) → wpAny P md ops Q fuel listed (mk F) w := by
  have hfin : ∀ (listed : Array Bool) (F : Nat → Value) (w : World), listed.size = n → Bs F w → (∀ j, j < n → listed.getD j true = true → fact j (F (dst j)) w) → left n listed = 0 → Region.ready md ops listed = [] ∧ Q .normal (mk F) w := by
    intro listed F w hs hb hf h0
    have hall : ∀ j, j < n → listed.getD j true = true := fun j hj => by
      cases e : listed.getD j true with
      | true => rfl
      | false =>
        have := left_lt hs hj e
        omega
    refine ⟨?_, hend F w hb fun j hj => hf j hj (hall j hj)⟩
    rw [List.eq_nil_iff_forall_not_mem]
    intro j hj
    obtain ⟨h1, o, h2, _⟩ := mem_ready.1 hj
    have hjl := (Array.getElem?_eq_some_iff.1 h2).1
    rw [hall j (by omega)] at h1
    cases h1
  intro fuel
  induction fuel with
  | zero => intro listed F w hs hl _ hb hf; exact hfin listed F w hs hb hf (by omega)
  | succ fuel ih =>
    intro listed F w hs hl hcl hb hf
    refine ⟨fun h0 => ?_, fun j hj => ?_⟩
    · by_cases e : left n listed = 0
      · exact (hfin listed F w hs hb hf e).2
      · have hpos : 0 < left n listed := by omega
        unfold left at hpos
        obtain ⟨j, hj, hj2⟩ := List.countP_pos_iff.1 hpos
        have hjn := List.mem_range.1 hj
        have hl2 : listed.getD j true = false := by
          rw [Array.getD_eq_getD_getElem?] at hj2 ⊢
          rw [Array.getElem?_eq_getElem (by omega)] at hj2 ⊢
          simpa using hj2
        exact absurd h0 (some_ready (by omega) hac j (by omega) hl2)
    · obtain ⟨h1, o, h2, h3⟩ := mem_ready.1 hj
      have hjl : j < n := by have := (Array.getElem?_eq_some_iff.1 h2).1; omega
      have hdl : ∀ e ∈ deps j, listed.getD e true = true := fun e he => by
        obtain ⟨o', h4, x, hx, hbd, hon⟩ := hd j hjl e he
        rw [h2] at h4
        cases h4
        have := h3 x hx hbd
        rw [hon] at this
        have hen := hdn j hjl e he
        rw [Array.getD_eq_getD_getElem?] at this ⊢
        rw [Array.getElem?_eq_getElem (by omega)] at this ⊢
        simpa using this
      refine hops j hjl F w _ hb (fun e he => hf e (hdn j hjl e he) (hdl e he)) fun v w' q1 q2 q3 q4 => ?_
      refine ih (listed.setIfInBounds j true) _ w' (by simpa using hs) (by have := left_lt hs hjl h1; omega) (fun e he hle x hx => ?_) q1 fun e he hle => ?_
      · by_cases e3 : j = x
        · subst e3
          simp [Array.getD_eq_getD_getElem?, Array.getElem?_setIfInBounds, hs, hjl]
        · rw [getD_set_ne true e3]
          by_cases e2 : e = j
          · subst e2
            exact hdl x hx
          · rw [getD_set_ne true (Ne.symm e2)] at hle
            exact hcl e he hle x hx
      · by_cases e2 : e = j
        · subst e2
          unfold upd
          rw [if_pos rfl]
          exact q3
        · rw [getD_set_ne true (Ne.symm e2)] at hle
          have hnd : j ∉ deps e := fun hm => by
            have := hcl e he hle j hm
            rw [h1] at this
            cases this
          rw [q4 e he e2 hnd]
          exact q2 e he e2 hnd _ (hf e he hle)
theorem op_wp {j : Nat} {o : Oper} {K : Go.Act → World → Prop} {a : Go.Act} {w : World} (hi : ops[j]? = some o) (hg : o.guard = none) (h : o.wp P a w K Q) : wpOp P ops Q j K a w := by
  unfold wpOp
  rw [hi]
  simp only
  rw [if_pos (by simp [Region.wanted, hg])]
  exact .inl h
/-- the two conditions on the list of the operations, by reckoning. -/
def acyc (ops : Array Oper) : Bool := (List.range ops.size).all fun j => match ops[j]? with
  | some o => o.after.all fun x => decide (x.on < j)
  | none => true
def depsOk (md : Region.Mode) (ops : Array Oper) (n : Nat) (deps : Nat → List Nat) : Bool := (List.range n).all fun j => (deps j).all fun e => match ops[j]? with
  | some o => o.after.any fun x => Region.binds md x && decide (x.on = e)
  | none => false
theorem acyc_spec (h : acyc ops = true) : ∀ (j : Nat) (o : Oper), ops[j]? = some o → ∀ x ∈ o.after, x.on < j := by
  intro j o ho x hx
  have h1 := List.all_eq_true.1 h j (List.mem_range.2 (Array.getElem?_eq_some_iff.1 ho).1)
  rw [ho] at h1
  exact of_decide_eq_true (Array.all_eq_true'.1 h1 x hx)
theorem deps_spec {n : Nat} {deps : Nat → List Nat} (h : depsOk md ops n deps = true) : ∀ j, j < n → ∀ e ∈ deps j, ∃ o, ops[j]? = some o ∧ ∃ x ∈ o.after, Region.binds md x = true ∧ x.on = e := by
  intro j hj e he
  have h1 := List.all_eq_true.1 (List.all_eq_true.1 h j (List.mem_range.2 hj)) e he
  cases ho : ops[j]? with
  | none => rw [ho] at h1; cases h1
  | some o =>
    rw [ho] at h1
    simp only at h1
    obtain ⟨i, hi, hx⟩ := Array.any_eq_true.1 h1
    rw [Bool.and_eq_true] at hx
    exact ⟨o, rfl, _, Array.getElem_mem hi, hx.1, of_decide_eq_true hx.2⟩
end Go.Proofs.Ytaeklfljibjpiaa.Facts
