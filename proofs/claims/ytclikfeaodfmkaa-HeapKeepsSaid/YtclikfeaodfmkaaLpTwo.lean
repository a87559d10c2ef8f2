/-
  Layer 11: a region that draws its order: operations that read, one call, and then operations that read or are not wanted. No program is named here.
-/
import Derived.StillTailTactics
import Derived.Lib.Hide
import Derived.Test.YtclikfeaodfmkaaMem
namespace Go.Proofs.Ytclikfeaodfmkaa.Lp11
open Go.RowKit

variable {P : Program} {md : Region.Mode} {ops : Array Oper}
/-- each one behind n waits for one from n on. -/
def behindB (md : Region.Mode) (ops : Array Oper) (n : Nat) : Bool := (List.range ops.size).all fun t => decide (t ≤ n) || (List.range t).any fun s => decide (n ≤ s) && Region.waitsFor md ops t s
def NoTail (md : Region.Mode) (ops : Array Oper) (n : Nat) : Prop := ∀ listed : Array Bool, HeadInv md ops n listed → ∀ i, i < n → listed.getD i true = false → ∀ t, n ≤ t → t ∉ Region.ready md ops listed
theorem none_ready {n : Nat} (hs : Region.sinkB md ops n = true) {listed : Array Bool} (inv : HeadInv md ops n listed) (hn : n < ops.size) : ∀ (d i : Nat), n - i = d → i < n → listed.getD i true = false → n ∉ Region.ready md ops listed := by
  intro d
  induction d using Nat.strongRecOn with
  | _ d ih =>
    intro i hd hi hun hr
    obtain ⟨_, ot, hot, hall⟩ := mem_ready.1 hr
    obtain ⟨j, hj, hj2⟩ := List.any_eq_true.1 (List.all_eq_true.1 hs i (List.mem_range.2 hi))
    rw [List.mem_range] at hj
    simp only [Bool.and_eq_true, decide_eq_true_eq] at hj2
    obtain ⟨oj, hoj, e, he, hb, hon⟩ := Region.waitsFor_spec hj2.2
    by_cases hjn : j = n
    · subst hjn
      obtain rfl : oj = ot := Option.some.inj (hoj.symm.trans hot)
      have h2 := hall e he hb
      rw [hon, getD_both hun] at h2
      cases h2
    · cases hl : listed.getD j false with
      | true =>
        have h2 := inv.closed j oj hoj hl e he hb
        rw [hon, getD_both hun] at h2
        cases h2
      | false => exact ih (n - j) (by omega) j rfl (by omega) (getD_in (by rw [inv.size]; omega) hl) hr
theorem noTail {n : Nat} (hs : Region.sinkB md ops n = true) (hb : behindB md ops n = true) (hn : n < ops.size) : NoTail md ops n := by
  intro listed inv i hi hun t ht hr
  by_cases e : t = n
  · subst e
    exact none_ready hs inv hn _ i rfl hi hun hr
  · obtain ⟨_, ot, hot, hall⟩ := mem_ready.1 hr
    have htl : t < ops.size := (Array.getElem?_eq_some_iff.1 hot).1
    have h1 := List.all_eq_true.1 hb t (List.mem_range.2 htl)
    rw [Bool.or_eq_true, decide_eq_true_eq] at h1
    rcases h1 with h1 | h1
    · omega
    · obtain ⟨s, hs1, hs2⟩ := List.any_eq_true.1 h1
      rw [List.mem_range] at hs1
      simp only [Bool.and_eq_true, decide_eq_true_eq] at hs2
      obtain ⟨o', ho', e', he, hb', hon⟩ := Region.waitsFor_spec hs2.2
      obtain rfl : o' = ot := Option.some.inj (ho'.symm.trans hot)
      have h2 := hall e' he hb'
      rw [hon, getD_both (inv.tail s hs2.1 (by omega))] at h2
      cases h2
theorem first2 {w : World} {n i : Nat} {oi : Oper} {v : Value} {L : Array Bool → Act → Prop} (hi : ops[i]? = some oi) (hsel : ∀ (j : Nat) (o : Oper) cs b, ops[j]? = some o → o.op ≠ .select cs b) (ht : NoTail md ops n) (hin : i < n)
    (hdone : ∀ listed a, L listed a → ∀ j ∈ Region.ready md ops listed, n ≤ j) :
    ∀ (f : Nat) (listed : Array Bool) (a : Act), HeadInv md ops n listed →
      (∀ j oj, ops[j]? = some oj → j ≠ i → listed.getD j true = false → (∀ e ∈ oj.after, Region.binds md e = true → e.on ≠ i) → oi.apart ops oj = true) →
      i ∈ Region.ready md ops listed → YieldsAt P ops w oi v a → wpAnyL P md ops w n L f (listed.setIfInBounds i true) (a.put oi.dst v) → wpAnyL P md ops w n L (f + 1) listed a := by
  intro f
  induction f with
  | zero =>
    intro listed a inv _ hr hy H
    refine ⟨fun h => (by rw [h] at hr; cases hr), fun j hj => ?_⟩
    have hjn : j < n := Nat.lt_of_not_le fun h => ht listed inv i hin (mem_ready.1 hr).1 j h hj
    refine ⟨hjn, ?_⟩
    by_cases e : j = i
    · subst e; exact hy.stOp hi H
    · have := hdone _ _ H j (ready_mono hj e)
      omega
  | succ f ih =>
    intro listed a inv hfree hr hy H
    refine ⟨fun h => (by rw [h] at hr; cases hr), fun j hj => ?_⟩
    have hjn : j < n := Nat.lt_of_not_le fun h => ht listed inv i hin (mem_ready.1 hr).1 j h hj
    refine ⟨hjn, ?_⟩
    by_cases e : j = i
    · subst e; exact hy.stOp hi H
    · obtain ⟨hju, oj, hoj, hall⟩ := mem_ready.1 hj
      have hno : ∀ x ∈ oj.after, Region.binds md x = true → x.on ≠ i := fun x hx hb he => by
        have h1 := hall x hx hb
        rw [he, getD_both (mem_ready.1 hr).1] at h1
        cases h1
      have h2 := stOp_put hoj (hfree j oj hoj e hju hno) (fun cs b => hsel i oi cs b hi) (fun cs b => hsel j oj cs b hoj) hy (H.2 j (ready_mono hj e)).2
      refine stOp_mono (fun a' h3 => ih (listed.setIfInBounds j true) a' (inv.set hj hjn) (fun k ok hk hki hun hn => ?_) (ready_mono hr (Ne.symm e)) h3.1 ?_) h2
      · refine hfree k ok hk hki ?_ hn
        by_cases e2 : j = k
        · subst e2; exact hju
        · rw [getD_set_ne true e2] at hun; exact hun
      · rw [Array.setIfInBounds_comm _ _ e]
        exact h3.2
def lex2 (md : Region.Mode) (ops : Array Oper) (E : Array Bool → Bool) : Nat → Nat → Array Bool → Bool
  | 0, _, listed => E listed
  | f + 1, k, listed => (Region.ready md ops listed).contains k && Region.free md ops listed k && lex2 md ops E f (k + 1) (listed.setIfInBounds k true)
theorem all2L {w : World} {n : Nat} {E : Array Bool → Bool} {Lq : Act → Prop} (hsel : Region.noSelect ops = true) (ht : NoTail md ops n) (hE : ∀ listed, E listed = true → ∀ j ∈ Region.ready md ops listed, n ≤ j) :
    ∀ (l : List Oper) (k : Nat) (listed : Array Bool) (a : Act), (∀ j, j < l.length → l[j]? = ops[k + j]?) → k + l.length = n → HeadInv md ops n listed → lex2 md ops E l.length k listed = true → wpStill P ops w Lq l a →
    wpAnyL P md ops w n (fun listed' a' => E listed' = true ∧ Lq a') l.length listed a
  | [], k, listed, a, _, _, _, hB, h => ⟨hB, h⟩
  | o :: l, k, listed, a, hl, hk, inv, hB, h => by
    have h0 : ops[k]? = some o := by simpa using (hl 0 (by simp)).symm
    simp only [List.length_cons, lex2, Bool.and_eq_true] at hB
    have hkn : k < n := by simp only [List.length_cons] at hk; omega
    have hr : k ∈ Region.ready md ops listed := by simpa using hB.1.1
    have hst : stOp P ops w k (wpStill P ops w Lq l) a := by unfold stOp; simp only [h0]; exact h
    obtain ⟨v, hy, hK⟩ := yieldsAt_of_stOp h0 hst
    exact first2 h0 (Region.noSelect_spec hsel) ht hkn (fun listed' a' hL => hE listed' hL.1) l.length listed a inv (Region.free_spec h0 hB.1.2) hr hy
      (all2L hsel ht hE l (k + 1) _ _ (fun j hj => by have := hl (j + 1) (by simp; omega); simpa [Nat.add_assoc, Nat.add_comm 1 j] using this) (by simp only [List.length_cons] at hk; omega) (inv.set hr hkn) hB.2 hK)
def closedB (md : Region.Mode) (ops : Array Oper) (listed : Array Bool) : Bool := decide (listed.size = ops.size) && ((List.range ops.size).all fun j => match ops[j]? with
  | some oj => !(listed.getD j false) || oj.after.all fun e => !(Region.binds md e) || listed.getD e.on false
  | none => true) && decide (listed.getD (ops.size - 1) true = false)
theorem closed_inv {listed : Array Bool} (h : closedB md ops listed = true) : HeadInv md ops (ops.size - 1) listed := by
  unfold closedB at h
  simp only [Bool.and_eq_true, decide_eq_true_eq] at h
  refine ⟨h.1.1, fun j oj hj hl e he hb => ?_, fun t ht1 ht2 => (by rw [show t = ops.size - 1 by omega]; exact h.2)⟩
  have hjl : j < ops.size := (Array.getElem?_eq_some_iff.1 hj).1
  have h1 := List.all_eq_true.1 h.1.2 j (List.mem_range.2 hjl)
  rw [hj] at h1
  simp only [hl, Bool.not_true, Bool.false_or] at h1
  have h2 := Array.all_eq_true'.1 h1 e he
  rw [hb] at h2
  simpa using h2
/-- what is asked when the first N are done. -/
def midB (md : Region.Mode) (ops : Array Oper) (N : Nat) (listed : Array Bool) : Bool :=
  decide (Region.ready md ops listed = [N]) && closedB md ops (listed.setIfInBounds N true) && Region.lexHead md ops 1 (ops.size - 1 - (N + 1)) (N + 1) (listed.setIfInBounds N true)
def twoB (md : Region.Mode) (ops : Array Oper) (N : Nat) : Bool :=
  Region.noSelect ops && decide (N + 1 < ops.size) && Region.sinkB md ops N && behindB md ops N && Region.sinkB md ops (ops.size - 1) && Region.chainB md ops (ops.size - 1) && lex2 md ops (midB md ops N) N 0 (Array.replicate ops.size false)
/-- Q, but K where all is done. -/
def onOk (K : Act → World → Prop) (Q : Exit → Act → World → Prop) : Exit → Act → World → Prop
  | .normal, a, w => K a w
  | e, a, w => Q e a w
theorem upon_ok {o : Oper} {a : Act} {K K' : Act → World → Prop} {Q : Exit → Act → World → Prop} (hK : ∀ a w, K a w → K' a w) {r : Result Next} (h : o.upon P a K (onOk K' Q) r) : o.upon P a K' Q r := by
  cases r with
  | ok x w' =>
    cases x with
    | value v => exact hK _ _ h
    | skip => exact hK _ _ h
    | defer d => exact hK _ _ h
    | enter f args =>
      refine Calls.mono h ?_
      intro e w'' he
      cases e with
      | returned v => exact hK _ _ he
      | panicked c => exact he
      | outgrown => exact he
    | row row args => exact Rows.mono h fun v w'' hv => hK _ _ hv
    | _ => exact h.elim
  | halt c w' =>
    cases c with
    | panic v => exact h
    | _ => exact h.elim
theorem op_ok {i : Nat} {o : Oper} {a : Act} {w : World} {K : Act → World → Prop} {Q : Exit → Act → World → Prop} (ho : ops[i]? = some o) (h : wpList P ops (onOk K Q) [o] a w) : wpOp P ops Q i K a w := by
  have hw : wpOp P ops (onOk K Q) i (wpList P ops (onOk K Q) []) a w := by unfold wpOp; simp only [ho]; exact h
  unfold wpOp at hw ⊢
  simp only [ho] at hw ⊢
  by_cases hq : Region.wanted o (yielded ops a.tmps) = true
  · rw [if_pos hq] at hw ⊢
    rcases hw with hw | hw
    · exact .inl (upon_ok (fun a w k => k) hw)
    · exact .inr hw
  · rw [if_neg hq] at hw ⊢
    exact hw
theorem wp_region_two {id : Nat} {Q : Exit → Act → World → Prop} {a : Act} {w : World} {l : List Oper} (N : Nat) {o : Oper} (hm : P.follows .mixedOrders = true) (hB : twoB .any l.toArray N = true) (ho : l[N]? = some o)
    (h : wpStill P l.toArray w.drew (fun a1 => wpList P l.toArray (onOk (fun a2 w2 => wpStill P l.toArray w2 (fun a3 => wpList P l.toArray Q (l.drop (l.length - 1)) a3 w2) ((l.drop (N + 1)).take (l.length - 1 - (N + 1))) a2) Q) [o] a1 w.drew) (l.take N) a) :
    (Code.region id l.toArray true).wp P Q a w := by
  simp only [twoB, Bool.and_eq_true, decide_eq_true_eq] at hB
  obtain ⟨⟨⟨⟨⟨⟨hsel, hn⟩, hs⟩, hb⟩, hs2⟩, hc2⟩, hlex⟩ := hB
  have hsz : l.toArray.size = l.length := by simp
  have htl : (l.take N).length = N := by simp; omega
  have inv0 : HeadInv .any l.toArray N (Array.replicate l.toArray.size false) :=
    ⟨by simp, fun j oj _ hl => (by rw [getD_replicate_false] at hl; cases hl), fun t _ ht => getD_in (by simpa using ht) (getD_replicate_false _ _)⟩
  have H := all2L (P := P) (w := w.drew) (md := .any) (E := midB .any l.toArray N) hsel (noTail hs hb (by omega)) (fun listed hE j hj => by
    unfold midB at hE
    rw [Bool.and_eq_true, Bool.and_eq_true, decide_eq_true_eq] at hE
    rw [hE.1.1] at hj
    have : j = N := by simpa using hj
    omega) (l.take N) 0 _ a (fun j hj => by
      have hj' : j < N := by rw [htl] at hj; exact hj
      simp [hj']) (by simpa using htl) inv0 (by rw [htl]; exact hlex) h
  refine wp_region_any hm ?_
  have := wpAny_of_head (Q' := Q) (g := l.length - 1 - (N + 1) + 1 + 1) (fun listed a1 hL => by
    obtain ⟨hE, hcall⟩ := hL
    unfold midB at hE
    rw [Bool.and_eq_true, Bool.and_eq_true, decide_eq_true_eq] at hE
    obtain ⟨⟨hrd, hcl⟩, hlx⟩ := hE
    refine ⟨fun h1 => (by rw [hrd] at h1; cases h1), fun i hi => ?_⟩
    rw [hrd] at hi
    obtain rfl : i = N := by simpa using hi
    refine wpOp_mono (fun a2 w2 h2 => ?_) (op_ok (by simpa using ho) hcall)
    have hl2 : ((l.drop (i + 1)).take (l.length - 1 - (i + 1))).length = l.length - 1 - (i + 1) := by simp; omega
    have H2 := wpAnyL_lex (md := .any) (g := 1) hsel hs2 hc2 (by omega) ((l.drop (i + 1)).take (l.length - 1 - (i + 1))) (i + 1) _ a2 (fun j hj => by
      have hj' : j < l.length - 1 - (i + 1) := by rw [hl2] at hj; exact hj
      rw [List.getElem?_take_of_lt hj', List.getElem?_drop]
      simp) (by rw [hl2, hsz]; omega) (closed_inv hcl) (by rw [hl2, ← hsz]; exact hlx) h2
    have := wpAny_of_head (Q' := Q) (g := 1) (fun listed a' hL => by
      have := wpAny_of_seq (md := .any) (Q' := Q) (l.drop (l.length - 1)) (l.length - 1) listed a' w2 (fun j => by simp [List.getElem?_drop]) (by rw [show (l.drop (l.length - 1)).length = 1 by simp; omega, ← hsz]; exact hL.1) hL.2
      rwa [show (l.drop (l.length - 1)).length = 1 by simp; omega] at this) _ _ _ H2
    rw [hl2] at this
    exact this) _ _ _ H
  rw [htl, show N + (l.length - 1 - (N + 1) + 1 + 1) = l.toArray.size by rw [hsz] at hn ⊢; omega] at this
  exact this
theorem wpStill_step2 {w : World} {Q : Act → Prop} {a : Act} {o : Oper} {rest : List Oper}
    (h : ∀ (K : Act → Prop) (J : Act → Prop), Hid (J = wpStill P ops w Q rest) → (∀ a, J a → K a) → if Region.wanted o (yielded ops a.tmps) then o.still P a w K else K (a.put o.dst undef)) : wpStill P ops w Q (o :: rest) a :=
  wpStill_step fun K hK => h K _ (Lib.hid rfl) hK
end Go.Proofs.Ytclikfeaodfmkaa.Lp11
