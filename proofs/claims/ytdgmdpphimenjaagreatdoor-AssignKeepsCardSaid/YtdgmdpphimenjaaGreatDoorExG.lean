/-
  LvFacts Law12 Ex13 Law13
-/
import Derived.StillTailTactics
import Derived.RegionTactic
import Derived.Test.YtdgmdpphimenjaaGreatDoorMem
import Derived.Test.YtdgmdpphimenjaaGreatDoorLvB
import Derived.Laws.ResultCell
import Derived.Test.YtdgmdpphimenjaaGreatDoorAsG
/-
  A region that draws its order, by what holds of each of its operations once it is done. No program is named here.
-/
namespace Go.Proofs.YtdgmdpphimenjaaGreatDoor.Facts
open Go.RowKit
variable {P : Program} {md : Region.Mode} {ops : Array Oper} {Q : Exit → Go.Act → World → Prop}
def upd (f : Nat → Value) (i : Nat) (a : Value) (j : Nat) : Value := if j = i then a else f j
theorem count_lt {p q : Nat → Bool} : ∀ {l : List Nat} {j : Nat}, (∀ i, q i = true → p i = true) → j ∈ l → p j = true → q j = false → l.countP q < l.countP p
  | a :: l, j, h, hj, hp, hq => by
    have hle : l.countP q ≤ l.countP p := List.countP_mono_left fun x _ hx => h x hx
    rw [List.countP_cons, List.countP_cons]
    by_cases e : a = j
    · subst e
      rw [if_pos hp, if_neg (by rw [hq]; simp)]
      omega
    · have := count_lt h (List.mem_of_ne_of_mem (Ne.symm e) hj) hp hq
      by_cases e1 : q a = true
      · rw [if_pos e1, if_pos (h a e1)]
        omega
      · rw [if_neg e1]
        split <;> omega
/-- how many are still to come. -/
def left (n : Nat) (listed : Array Bool) : Nat := (List.range n).countP fun j => !listed.getD j false
theorem left_lt {n j : Nat} {listed : Array Bool} (hs : listed.size = n) (hj : j < n) (hl : listed.getD j true = false) : left n (listed.setIfInBounds j true) < left n listed := by
  unfold left
  have hg : listed.getD j false = false := by
    rw [Array.getD_eq_getD_getElem?] at hl ⊢
    rw [Array.getElem?_eq_getElem (by omega)] at hl ⊢
    simpa using hl
  refine count_lt (j := j) (fun i hi => ?_) (List.mem_range.2 hj) (by simp [hg]) ?_
  · by_cases e : j = i
    · subst e
      simp [Array.getD_eq_getD_getElem?, Array.getElem?_setIfInBounds, hs, hj] at hi
    · rwa [getD_set_ne false e] at hi
  · simp [Array.getD_eq_getD_getElem?, Array.getElem?_setIfInBounds, hs, hj]
theorem some_ready {listed : Array Bool} (hs : listed.size = ops.size) (hac : ∀ (j : Nat) (o : Oper), ops[j]? = some o → ∀ x ∈ o.after, x.on < j) : ∀ j : Nat, j < ops.size → listed.getD j true = false → Region.ready md ops listed ≠ [] := by
  intro j
  induction j using Nat.strongRecOn with
  | _ j ih =>
    intro hj hl
    obtain ⟨o, ho⟩ : ∃ o, ops[j]? = some o := ⟨_, Array.getElem?_eq_getElem hj⟩
    by_cases hall : ∀ x ∈ o.after, Region.binds md x = true → listed.getD x.on false = true
    · intro h0
      have : j ∈ Region.ready md ops listed := mem_ready.2 ⟨hl, o, ho, hall⟩
      rw [h0] at this
      cases this
    · have : ∃ x, x ∈ o.after ∧ Region.binds md x = true ∧ ¬ listed.getD x.on false = true := by
        apply Classical.byContradiction
        intro h
        apply hall
        intro x hx hb
        apply Classical.byContradiction
        intro h2
        exact h ⟨x, hx, hb, h2⟩
      obtain ⟨x, hx, hb, hl2⟩ := this
      have hxj := hac j o ho x hx
      refine ih x.on hxj (by omega) ?_
      rw [Array.getD_eq_getD_getElem?] at hl2 ⊢
      rw [Array.getElem?_eq_getElem (by omega)] at hl2 ⊢
      simpa using hl2
theorem wpAny_facts (mk : (Nat → Value) → Go.Act) (n : Nat) (hn : ops.size = n) (dst : Nat → Nat) (fact : Nat → Value → World → Prop) (Bs : (Nat → Value) → World → Prop) (deps : Nat → List Nat)
    (hac : ∀ (j : Nat) (o : Oper), ops[j]? = some o → ∀ x ∈ o.after, x.on < j) (hd : ∀ j, j < n → ∀ e ∈ deps j, ∃ o, ops[j]? = some o ∧ ∃ x ∈ o.after, Region.binds md x = true ∧ x.on = e) (hdn : ∀ j, j < n → ∀ e ∈ deps j, e < n)
    (hops : ∀ j, j < n → ∀ (F : Nat → Value) (w : World) (K : Go.Act → World → Prop), Bs F w → (∀ e ∈ deps j, fact e (F (dst e)) w) →
      (∀ v w', Bs (upd F (dst j) v) w' → (∀ e, e < n → e ≠ j → j ∉ deps e → ∀ u, fact e u w → fact e u w') → fact j v w' → (∀ e, e < n → e ≠ j → j ∉ deps e → upd F (dst j) v (dst e) = F (dst e)) → K (mk (upd F (dst j) v)) w') → wpOp P ops Q j K (mk F) w)
    (hend : ∀ F w, Bs F w → (∀ j, j < n → fact j (F (dst j)) w) → Q .normal (mk F) w) :
    ∀ (fuel : Nat) (listed : Array Bool) (F : Nat → Value) (w : World), listed.size = n → left n listed ≤ fuel → (∀ e, e < n → listed.getD e true = true → ∀ x ∈ deps e, listed.getD x true = true) → Bs F w → (∀ j, j < n → listed.getD j true = true → fact j (F (dst j)) w) → wpAny P md ops Q fuel listed (mk F) w := by
  have hfin : ∀ (listed : Array Bool) (F : Nat → Value) (w : World), listed.size = n → Bs F w → (∀ j, j < n → listed.getD j true = true → fact j (F (dst j)) w) → left n listed = 0 → Region.ready md ops listed = [] ∧ Q .normal (mk F) w := by
    intro listed F w hs hb hf h0
    have hall : ∀ j, j < n → listed.getD j true = true := fun j hj => by
      cases e : listed.getD j true with
      | true => rfl
      | false =>
        have := left_lt hs hj e
        omega
    refine ⟨?_, hend F w hb fun j hj => hf j hj (hall j hj)⟩
    rw [List.eq_nil_iff_forall_not_mem]
    intro j hj
    obtain ⟨h1, o, h2, _⟩ := mem_ready.1 hj
    have hjl := (Array.getElem?_eq_some_iff.1 h2).1
    rw [hall j (by omega)] at h1
    cases h1
  intro fuel
  induction fuel with
  | zero => intro listed F w hs hl _ hb hf; exact hfin listed F w hs hb hf (by omega)
  | succ fuel ih =>
    intro listed F w hs hl hcl hb hf
    refine ⟨fun h0 => ?_, fun j hj => ?_⟩
    · by_cases e : left n listed = 0
      · exact (hfin listed F w hs hb hf e).2
      · have hpos : 0 < left n listed := by omega
        unfold left at hpos
        obtain ⟨j, hj, hj2⟩ := List.countP_pos_iff.1 hpos
        have hjn := List.mem_range.1 hj
        have hl2 : listed.getD j true = false := by
          rw [Array.getD_eq_getD_getElem?] at hj2 ⊢
          rw [Array.getElem?_eq_getElem (by omega)] at hj2 ⊢
          simpa using hj2
        exact absurd h0 (some_ready (by omega) hac j (by omega) hl2)
    · obtain ⟨h1, o, h2, h3⟩ := mem_ready.1 hj
      have hjl : j < n := by have := (Array.getElem?_eq_some_iff.1 h2).1; omega
      have hdl : ∀ e ∈ deps j, listed.getD e true = true := fun e he => by
        obtain ⟨o', h4, x, hx, hbd, hon⟩ := hd j hjl e he
        rw [h2] at h4
        cases h4
        have := h3 x hx hbd
        rw [hon] at this
        have hen := hdn j hjl e he
        rw [Array.getD_eq_getD_getElem?] at this ⊢
        rw [Array.getElem?_eq_getElem (by omega)] at this ⊢
        simpa using this
      refine hops j hjl F w _ hb (fun e he => hf e (hdn j hjl e he) (hdl e he)) fun v w' q1 q2 q3 q4 => ?_
      refine ih (listed.setIfInBounds j true) _ w' (by simpa using hs) (by have := left_lt hs hjl h1; omega) (fun e he hle x hx => ?_) q1 fun e he hle => ?_
      · by_cases e3 : j = x
        · subst e3
          simp [Array.getD_eq_getD_getElem?, Array.getElem?_setIfInBounds, hs, hjl]
        · rw [getD_set_ne true e3]
          by_cases e2 : e = j
          · subst e2
            exact hdl x hx
          · rw [getD_set_ne true (Ne.symm e2)] at hle
            exact hcl e he hle x hx
      · by_cases e2 : e = j
        · subst e2
          unfold upd
          rw [if_pos rfl]
          exact q3
        · rw [getD_set_ne true (Ne.symm e2)] at hle
          have hnd : j ∉ deps e := fun hm => by
            have := hcl e he hle j hm
            rw [h1] at this
            cases this
          rw [q4 e he e2 hnd]
          exact q2 e he e2 hnd _ (hf e he hle)
theorem op_wp {j : Nat} {o : Oper} {K : Go.Act → World → Prop} {a : Go.Act} {w : World} (hi : ops[j]? = some o) (hg : o.guard = none) (h : o.wp P a w K Q) : wpOp P ops Q j K a w := by
  unfold wpOp
  rw [hi]
  simp only
  rw [if_pos (by simp [Region.wanted, hg])]
  exact .inl h
/-- the two conditions on the list of the operations, by reckoning. -/
def acyc (ops : Array Oper) : Bool := (List.range ops.size).all fun j => match ops[j]? with
  | some o => o.after.all fun x => decide (x.on < j)
  | none => true
def depsOk (md : Region.Mode) (ops : Array Oper) (n : Nat) (deps : Nat → List Nat) : Bool := (List.range n).all fun j => (deps j).all fun e => match ops[j]? with
  | some o => o.after.any fun x => Region.binds md x && decide (x.on = e)
  | none => false
theorem acyc_spec (h : acyc ops = true) : ∀ (j : Nat) (o : Oper), ops[j]? = some o → ∀ x ∈ o.after, x.on < j := by
  intro j o ho x hx
  have h1 := List.all_eq_true.1 h j (List.mem_range.2 (Array.getElem?_eq_some_iff.1 ho).1)
  rw [ho] at h1
  exact of_decide_eq_true (Array.all_eq_true'.1 h1 x hx)
theorem deps_spec {n : Nat} {deps : Nat → List Nat} (h : depsOk md ops n deps = true) : ∀ j, j < n → ∀ e ∈ deps j, ∃ o, ops[j]? = some o ∧ ∃ x ∈ o.after, Region.binds md x = true ∧ x.on = e := by
  intro j hj e he
  have h1 := List.all_eq_true.1 (List.all_eq_true.1 h j (List.mem_range.2 hj)) e he
  cases ho : ops[j]? with
  | none => rw [ho] at h1; cases h1
  | some o =>
    rw [ho] at h1
    simp only at h1
    obtain ⟨i, hi, hx⟩ := Array.any_eq_true.1 h1
    rw [Bool.and_eq_true] at hx
    exact ⟨o, rfl, _, Array.getElem_mem hi, hx.1, of_decide_eq_true hx.2⟩
end Go.Proofs.YtdgmdpphimenjaaGreatDoor.Facts

/-
  Layer 12: what the laws share: the answers that the document fixes.
-/
namespace Go.Proofs.YtdgmdpphimenjaaGreatDoor.L12
open Go.RowKit Api Mem Sh8 Go.Maps Lv12
theorem results_cell12 {fn : Func} {p : Tmp} {ty : TypeId} (h : fn.results = #[.cell p ty]) (tmps : Array Value) (P : Program) (w : World) :
    (results fn tmps).run P w = ((asAddr (tmps.getD p undef)).run P w).andThen fun a w₁ => (loadVar ty a).run P w₁ := by
  simp only [results, h]
  simp [Sem.run_bind, Result.andThen]
/-- the slots. -/
def mkA (F : Nat → Value) : Go.Act := { tmps := #[F 0, F 1, F 2, F 3, F 4, F 5, F 6, F 7, F 8, F 9, F 10, F 11, F 12, F 13, F 14, F 15, F 16, F 17, F 18, F 19, F 20, F 21, F 22, F 23, F 24, F 25, F 26, F 27, F 28, F 29, F 30, F 31, F 32, F 33, F 34, F 35, F 36, F 37, F 38, F 39, F 40], defers := [] }
def dst2 (j : Nat) : Nat := [5,6,7,8,9,10,11,12,13,14,15,2,2].getD j 0
def deps2 (j : Nat) : List Nat := [[],[0],[1],[],[3],[3,4],[5],[2,6],[4],[8],[7,9],[],[0,1,2,3,4,5,6,7,8,9,10,11]].getD j []
abbrev nilS : Value := .slice none 0 0
def A1 (b0 : Nat) (w : World) (g : Nat) : Prop := Mem.Own w g 38 [i64 2, str [], i64 1] ∧ b0 ≤ g
def A2 (b0 : Nat) (w : World) (g : Nat) : Prop := Mem.Own w g 38 [i64 1, str [120], i64 0, i64 1, str [122], i64 0] ∧ b0 ≤ g
abbrev i0C (g : Nat) : List Value := [i64 24, str [120], str [], .slice (some ⟨g, 0, none⟩) 1 1, nilS, nilS]
abbrev i1C (g : Nat) : List Value := [i64 1, str [121], str [], .slice (some ⟨g, 0, none⟩) 2 2, nilS, nilS]
def A3 (b0 : Nat) (w : World) (g : Nat) : Prop := ∃ g1 g2, Mem.Own w g 43 (i0C g1 ++ i1C g2) ∧ A1 b0 w g1 ∧ A2 b0 w g2 ∧ b0 ≤ g
abbrev bC (g : Nat) : List Value := [str [98], nilS, .slice (some ⟨g, 0, none⟩) 2 2, i64 3, i64 1, str [121], i64 0, nilS, i64 0]
/-- what holds of each operation. -/
def fact2 (b0 : Nat) : Nat → Value → World → Prop
  | 0, v, _ => v = .agg #[i64 2, str [], i64 1]
  | 1, v, w => ∃ g, v = .slice (some ⟨g, 0, none⟩) 1 1 ∧ A1 b0 w g
  | 2, v, w => ∃ g, v = .agg (i0C g).toArray ∧ A1 b0 w g
  | 3, v, _ => v = .agg #[i64 1, str [120], i64 0]
  | 4, v, _ => v = .agg #[i64 1, str [122], i64 0]
  | 5, v, w => ∃ g, v = .slice (some ⟨g, 0, none⟩) 2 2 ∧ A2 b0 w g
  | 6, v, w => ∃ g, v = .agg (i1C g).toArray ∧ A2 b0 w g
  | 7, v, w => ∃ g, v = .slice (some ⟨g, 0, none⟩) 2 2 ∧ A3 b0 w g
  | 8, v, _ => v = .agg #[i64 1, str [121], i64 0]
  | 9, v, _ => v = .agg #[i64 3, i64 1, str [121], i64 0, nilS, i64 0]
  | 10, v, w => ∃ g, v = .agg (bC g).toArray ∧ A3 b0 w g
  | 11, v, w => ∃ p cs, v = .pointer (some ⟨p, 0, none⟩) ∧ Mem.Own w p 51 cs ∧ cs.length = 9 ∧ b0 ≤ p
  | _, v, w => ∃ p g, v = .pointer (some ⟨p, 0, none⟩) ∧ Mem.Own w p 51 (bC g) ∧ b0 ≤ p ∧ A3 b0 w g
theorem A1.below {b0 : Nat} {w w' : World} {g : Nat} (h : A1 b0 w g) (hb : Below w.heap.size w w') : A1 b0 w' g := ⟨h.1.below hb h.1.lt, h.2⟩
theorem A2.below {b0 : Nat} {w w' : World} {g : Nat} (h : A2 b0 w g) (hb : Below w.heap.size w w') : A2 b0 w' g := ⟨h.1.below hb h.1.lt, h.2⟩
theorem A3.below {b0 : Nat} {w w' : World} {g : Nat} (h : A3 b0 w g) (hb : Below w.heap.size w w') : A3 b0 w' g := by
  obtain ⟨g1, g2, h1, h2, h3, h4⟩ := h
  exact ⟨g1, g2, h1.below hb h1.lt, h2.below hb, h3.below hb, h4⟩
theorem fact2_mono {b0 : Nat} {w w' : World} (hb : Below w.heap.size w w') : ∀ (j : Nat) (v : Value), fact2 b0 j v w → fact2 b0 j v w'
  | 0, _, h => h
  | 1, _, ⟨g, h, k⟩ => ⟨g, h, k.below hb⟩
  | 2, _, ⟨g, h, k⟩ => ⟨g, h, k.below hb⟩
  | 3, _, h => h
  | 4, _, h => h
  | 5, _, ⟨g, h, k⟩ => ⟨g, h, k.below hb⟩
  | 6, _, ⟨g, h, k⟩ => ⟨g, h, k.below hb⟩
  | 7, _, ⟨g, h, k⟩ => ⟨g, h, k.below hb⟩
  | 8, _, h => h
  | 9, _, h => h
  | 10, _, ⟨g, h, k⟩ => ⟨g, h, k.below hb⟩
  | 11, _, ⟨p, cs, h, k, l, m⟩ => ⟨p, cs, h, k.below hb k.lt, l, m⟩
  | _ + 12, _, ⟨p, g, h, k, l, m⟩ => ⟨p, g, h, k.below hb k.lt, l, m.below hb⟩
def Bs2 (w0 : World) (F : Nat → Value) (w : World) : Prop := F 0 = .bool false ∧ F 1 = .pointer (some ⟨w0.heap.size, 0, none⟩) ∧ Mem.Own w w0.heap.size 38 [i64 2, str [], i64 1] ∧ Below w0.heap.size w0 w
/-- A row of one, just laid. -/
theorem row_one12 {α : Type} {hi size : Nat} {w : World} {g : Nat} {t : TypeId} {cs : List Value} {P : List Value → α → Prop} {x : α} (o : Mem.Own w g t cs) (hg : g < hi) (hs : cs.length = size) (hp : P cs x) : Row 0 hi w size P (.slice (some ⟨g, 0, none⟩) 1 1) [x] := by
  refine ⟨_, 1, 1, g, 0, rfl, rfl, ⟨by omega, by omega⟩, fun _ => ⟨rfl, Nat.zero_le _, hg⟩, fun i y hy => ?_⟩
  match i, hy with
  | 0, hy =>
    obtain rfl : x = y := by simpa using hy
    exact ⟨cs, hs, fun j u hj => by rw [show 0 + 0 * size + j = j by omega]; exact (o.cell j).trans hj, hp⟩
  | i + 1, hy => simp at hy
theorem row_two12 {α : Type} {hi size : Nat} {w : World} {g : Nat} {t : TypeId} {cs ds : List Value} {P : List Value → α → Prop} {x y : α} (o : Mem.Own w g t (cs ++ ds)) (hg : g < hi) (hs : cs.length = size) (hs2 : ds.length = size) (hp : P cs x) (hp2 : P ds y) : Row 0 hi w size P (.slice (some ⟨g, 0, none⟩) 2 2) [x, y] := by
  refine ⟨_, 2, 2, g, 0, rfl, rfl, ⟨by omega, by omega⟩, fun _ => ⟨rfl, Nat.zero_le _, hg⟩, fun i z hz => ?_⟩
  match i, hz with
  | 0, hz =>
    obtain rfl : x = z := by simpa using hz
    refine ⟨cs, hs, fun j u hj => ?_, hp⟩
    rw [show 0 + 0 * size + j = j by omega, o.cell, List.getElem?_append_left (List.getElem?_eq_some_iff.1 hj).1]
    exact hj
  | 1, hz =>
    obtain rfl : y = z := by simpa using hz
    refine ⟨ds, hs2, fun j u hj => ?_, hp2⟩
    rw [show 0 + 1 * size + j = cs.length + j by omega, o.cell, List.getElem?_append_right (by omega), Nat.add_sub_cancel_left]
    exact hj
  | i + 2, hz => simp at hz
theorem row_zero12 {α : Type} {hi size : Nat} {w : World} {P : List Value → α → Prop} : Row 0 hi w size P nilS ([] : List α) := ⟨none, 0, 0, 0, 0, rfl, rfl, by omega, by omega, fun i x h => by simp at h⟩
/-- awake's function. -/
abbrev i0A : Api.Instr := ⟨24, [120], [], [⟨2, [], 1⟩], [], []⟩
abbrev i1A : Api.Instr := ⟨1, [121], [], [⟨1, [120], 0⟩, ⟨1, [122], 0⟩], [], []⟩
abbrev bA : Api.Block := ⟨[98], [], [i0A, i1A], ⟨3, ⟨1, [121], 0⟩, [], 0⟩⟩
abbrev fA : Api.Func := ⟨[], [], [], [], [bA]⟩
structure AW (w : World) (g0 g g1 g2 : Nat) : Prop where
  b : Mem.Own w g0 51 (bC g)
  i : Mem.Own w g 43 (i0C g1 ++ i1C g2)
  a1 : Mem.Own w g1 38 [i64 2, str [], i64 1]
  a2 : Mem.Own w g2 38 [i64 1, str [120], i64 0, i64 1, str [122], i64 0]
theorem AW.below {w w' : World} {g0 g g1 g2 : Nat} (h : AW w g0 g g1 g2) (hb : Below w.heap.size w w') : AW w' g0 g g1 g2 := ⟨h.b.below hb h.b.lt, h.i.below hb h.i.lt, h.a1.below hb h.a1.lt, h.a2.below hb h.a2.lt⟩
abbrev fC (g0 : Nat) : List Value := [str [], str [], nilS, nilS, .slice (some ⟨g0, 0, none⟩) 1 1]
theorem AW.func {w : World} {g0 g g1 g2 : Nat} (h : AW w g0 g g1 g2) : FuncC 0 w.heap.size w (fC g0) fA := by
  refine ⟨_, _, _, rfl, row_zero12, row_zero12, row_one12 h.b h.b.lt rfl ⟨_, _, _, rfl, row_zero12, row_two12 h.i h.i.lt rfl rfl ?_ ?_, _, rfl, row_zero12⟩⟩
  · exact ⟨_, _, _, rfl, row_one12 h.a1 h.a1.lt rfl rfl, row_zero12, row_zero12⟩
  · exact ⟨_, _, _, rfl, row_two12 (cs := [i64 1, str [120], i64 0]) (ds := [i64 1, str [122], i64 0]) h.a2 h.a2.lt rfl rfl rfl rfl, row_zero12, row_zero12⟩
abbrev UA : List Wd := [[120], [121], [122]]
theorem uokA : UOk UA := ⟨by decide, by decide⟩
theorem oneA : OneB UA fA bA := ⟨rfl, rfl, rfl, by decide, by decide, by decide, by decide⟩
def rA : Nat → List Wd
  | 0 => [[122]]
  | 1 => [[120], [122]]
  | _ => [[121]]
theorem rA_rise : ∀ k, k ≤ 2 → Rise (rA k)
  | 0, _ => ⟨by decide, by decide⟩
  | 1, _ => ⟨by decide, by decide⟩
  | 2, _ => ⟨by decide, by decide⟩
  | _ + 3, h => by omega
theorem rA_mem : ∀ k, k ≤ 2 → ∀ x, backL (bA.code.drop k) (fun y => decide (y ∈ usesT bA.fin)) x = true ↔ x ∈ rA k
  | 0, _, x => by
    simp [backL, backI, usesT, usesI, namesA, namesF, namesO, orS, delS, rA]
    constructor
    · rintro ⟨h1 | h1, h2⟩
      · exact absurd h1 h2
      · exact h1
    · rintro rfl
      exact ⟨.inr rfl, by decide⟩
  | 1, _, x => by
    simp [backL, backI, usesT, usesI, namesA, namesF, namesO, orS, delS, rA]
  | 2, _, x => by
    simp [backL, backI, usesT, usesI, namesA, namesF, namesO, orS, delS, rA]
  | _ + 3, h, _ => by omega
theorem at_c {w : World} {g0 g g1 g2 : Nat} (h : AW w g0 g g1 g2) (k : Nat) (hk : k ≤ 2) :
    Calls Tryz.prog 23 #[.agg (fC g0).toArray, .int .i64 0, .int .i64 (k : Int)] w fun e w' => ∃ v, e = .returned v ∧ Texts w.heap.size w'.heap.size w' v (rA k) ∧ Below w.heap.size w w' := by
  refine (at1_any uokA 0 _ w (fC g0) fA bA h.func (Nat.le_refl _) oneA k hk).mono ?_
  rintro e w' ⟨v, r, rfl, hr, hm, ho, -, hb⟩
  obtain rfl : r = rA k := rise_eq hr (rA_rise k hk) fun x => (hm x).trans (rA_mem k hk x)
  have hl : ∀ k, k ≤ 2 → (rA k).length ≤ 4611686018427387903 := by decide
  exact ⟨v, rfl, texts_own ho rfl (hl k hk), hb⟩
theorem at_o {w : World} {g0 g g1 g2 : Nat} (h : AW w g0 g g1 g2) : Calls Tryz.prog 23 #[.agg (fC g0).toArray, .int .i64 0, .int .i64 3] w fun e w' => e = .returned (.slice none 0 0) ∧ Below w.heap.size w w' :=
  at1_out (U := UA) 0 _ w (fC g0) fA bA h.func (Nat.le_refl _) oneA 3 (by decide) (by decide)
theorem own_ne {w : World} {q p : Nat} {t t' : TypeId} {cs ds : List Value} (h : Mem.Own w q t cs) (k : Mem.Own w p t' ds) (ht : t ≠ t') : q ≠ p := by
  rintro rfl
  unfold Mem.Own at h k
  rw [h] at k
  simp at k
  exact ht k.2
def W9 (w : World) (p : Nat) (v0 v1 v2 v3 v4 v5 v6 v7 v8 : Value) : World := ((((((((w.setCell ⟨p, 0, none⟩ v0).setCell ⟨p, 1, none⟩ v1).setCell ⟨p, 2, none⟩ v2).setCell ⟨p, 3, none⟩ v3).setCell ⟨p, 4, none⟩ v4).setCell ⟨p, 5, none⟩ v5).setCell ⟨p, 6, none⟩ v6).setCell ⟨p, 7, none⟩ v7).setCell ⟨p, 8, none⟩ v8
theorem keep1 {w : World} {q p i : Nat} {t : TypeId} {cs : List Value} {v : Value} (h : Mem.Own w q t cs) (hq : q ≠ p) : Mem.Own (w.setCell ⟨p, i, none⟩ v) q t cs := (Below.heap_setCell w ⟨p, i, none⟩ v q hq).trans h
theorem keep9 {w : World} {q p : Nat} {t : TypeId} {cs : List Value} {v0 v1 v2 v3 v4 v5 v6 v7 v8 : Value} (h : Mem.Own w q t cs) (hq : q ≠ p) : Mem.Own (W9 w p v0 v1 v2 v3 v4 v5 v6 v7 v8) q t cs := by
  unfold W9
  exact keep1 (keep1 (keep1 (keep1 (keep1 (keep1 (keep1 (keep1 (keep1 h hq) hq) hq) hq) hq) hq) hq) hq) hq
theorem own9 {w : World} {p : Nat} {t : TypeId} {v0 v1 v2 v3 v4 v5 v6 v7 v8 x0 x1 x2 x3 x4 x5 x6 x7 x8 : Value} (h : Mem.Own w p t [x0, x1, x2, x3, x4, x5, x6, x7, x8]) : Mem.Own (W9 w p v0 v1 v2 v3 v4 v5 v6 v7 v8) p t [v0, v1, v2, v3, v4, v5, v6, v7, v8] := by
  unfold W9
  have h1 : Mem.Own _ p t [v0, x1, x2, x3, x4, x5, x6, x7, x8] := h.store 0 v0
  have h2 : Mem.Own _ p t [v0, v1, x2, x3, x4, x5, x6, x7, x8] := h1.store 1 v1
  have h3 : Mem.Own _ p t [v0, v1, v2, x3, x4, x5, x6, x7, x8] := h2.store 2 v2
  have h4 : Mem.Own _ p t [v0, v1, v2, v3, x4, x5, x6, x7, x8] := h3.store 3 v3
  have h5 : Mem.Own _ p t [v0, v1, v2, v3, v4, x5, x6, x7, x8] := h4.store 4 v4
  have h6 : Mem.Own _ p t [v0, v1, v2, v3, v4, v5, x6, x7, x8] := h5.store 5 v5
  have h7 : Mem.Own _ p t [v0, v1, v2, v3, v4, v5, v6, x7, x8] := h6.store 6 v6
  have h8 : Mem.Own _ p t [v0, v1, v2, v3, v4, v5, v6, v7, x8] := h7.store 7 v7
  have h9 : Mem.Own _ p t [v0, v1, v2, v3, v4, v5, v6, v7, v8] := h8.store 8 v8
  exact h9
theorem nine {l : List Value} (h : l.length = 9) : ∃ x0 x1 x2 x3 x4 x5 x6 x7 x8, l = [x0, x1, x2, x3, x4, x5, x6, x7, x8] := by
  obtain ⟨x0, l, rfl⟩ : ∃ x l2, l = x :: l2 := by cases l <;> simp at h ⊢
  obtain ⟨x1, l, rfl⟩ : ∃ x l2, l = x :: l2 := by cases l <;> simp at h ⊢
  obtain ⟨x2, l, rfl⟩ : ∃ x l2, l = x :: l2 := by cases l <;> simp at h ⊢
  obtain ⟨x3, l, rfl⟩ : ∃ x l2, l = x :: l2 := by cases l <;> simp at h ⊢
  obtain ⟨x4, l, rfl⟩ : ∃ x l2, l = x :: l2 := by cases l <;> simp at h ⊢
  obtain ⟨x5, l, rfl⟩ : ∃ x l2, l = x :: l2 := by cases l <;> simp at h ⊢
  obtain ⟨x6, l, rfl⟩ : ∃ x l2, l = x :: l2 := by cases l <;> simp at h ⊢
  obtain ⟨x7, l, rfl⟩ : ∃ x l2, l = x :: l2 := by cases l <;> simp at h ⊢
  obtain ⟨x8, l, rfl⟩ : ∃ x l2, l = x :: l2 := by cases l <;> simp at h ⊢
  obtain rfl : l = [] := by simpa using h
  exact ⟨x0, x1, x2, x3, x4, x5, x6, x7, x8, rfl⟩
theorem below9 {w : World} {B p : Nat} {v0 v1 v2 v3 v4 v5 v6 v7 v8 : Value} (h : B ≤ p) : Below B w (W9 w p v0 v1 v2 v3 v4 v5 v6 v7 v8) := by
  unfold W9
  exact (((((((((Below.refl B w).setCell h v0).setCell h v1).setCell h v2).setCell h v3).setCell h v4).setCell h v5).setCell h v6).setCell h v7).setCell h v8
section
variable {b0 p : Nat} {w w' : World} {xs vs : List Value} (o : Mem.Own w p 51 xs) (o' : Mem.Own w' p 51 vs) (hv : vs.length = 9) (kp : ∀ (q : Nat) (t : TypeId) (cs : List Value), Mem.Own w q t cs → q ≠ p → Mem.Own w' q t cs)
include o kp
theorem A1.set {g : Nat} (h : A1 b0 w g) : A1 b0 w' g := ⟨kp _ _ _ h.1 (own_ne h.1 o (by decide)), h.2⟩
theorem A2.set {g : Nat} (h : A2 b0 w g) : A2 b0 w' g := ⟨kp _ _ _ h.1 (own_ne h.1 o (by decide)), h.2⟩
theorem A3.set {g : Nat} (h : A3 b0 w g) : A3 b0 w' g := by
  obtain ⟨g1, g2, h1, h2, h3, h4⟩ := h
  exact ⟨g1, g2, kp _ _ _ h1 (own_ne h1 o (by decide)), h2.set o kp, h3.set o kp, h4⟩
include o' hv
set_option maxHeartbeats 2000000 in
theorem fact2_set (j : Nat) (hj : j < 12) (v : Value) (h : fact2 b0 j v w) : fact2 b0 j v w' := by
  have e : j = 0 ∨ j = 1 ∨ j = 2 ∨ j = 3 ∨ j = 4 ∨ j = 5 ∨ j = 6 ∨ j = 7 ∨ j = 8 ∨ j = 9 ∨ j = 10 ∨ j = 11 := by omega
  rcases e with rfl | rfl | rfl | rfl | rfl | rfl | rfl | rfl | rfl | rfl | rfl | rfl
  · exact h
  · obtain ⟨g, h, k⟩ := h
    exact ⟨g, h, k.set o kp⟩
  · obtain ⟨g, h, k⟩ := h
    exact ⟨g, h, k.set o kp⟩
  · exact h
  · exact h
  · obtain ⟨g, h, k⟩ := h
    exact ⟨g, h, k.set o kp⟩
  · obtain ⟨g, h, k⟩ := h
    exact ⟨g, h, k.set o kp⟩
  · obtain ⟨g, h, k⟩ := h
    exact ⟨g, h, k.set o kp⟩
  · exact h
  · exact h
  · obtain ⟨g, h, k⟩ := h
    exact ⟨g, h, k.set o kp⟩
  · obtain ⟨q, ds, h, k, l, m⟩ := h
    by_cases e : q = p
    · subst e
      exact ⟨q, _, h, o', hv, m⟩
    · exact ⟨q, ds, h, kp _ _ _ k e, l, m⟩
end
theorem fin2 {w w2 w' : World} {F : Nat → Value} {K : Go.Act → World → Prop} {j : Nat} {v : Value} {fr : Go.Act} (hj : j < 12) (hB : Bs2 w F w2)
    (hK : ∀ v w' fr, fr = mkA (Facts.upd F (dst2 j) v) → Bs2 w (Facts.upd F (dst2 j) v) w' → (∀ e, e < 13 → e ≠ j → j ∉ deps2 e → ∀ u, fact2 w.heap.size e u w2 → fact2 w.heap.size e u w') → fact2 w.heap.size j v w' → (∀ e, e < 13 → e ≠ j → j ∉ deps2 e → Facts.upd F (dst2 j) v (dst2 e) = F (dst2 e)) → K fr w')
    (hb : Below w2.heap.size w2 w') (hfr : fr = mkA (Facts.upd F (dst2 j) v)) (hf : fact2 w.heap.size j v w') : K fr w' := by
  obtain ⟨b0, b1, b2, b3⟩ := hB
  have hdj : ∀ j, j < 12 → dst2 j ≠ 0 ∧ dst2 j ≠ 1 := by decide
  have hde : ∀ j, j < 12 → ∀ e, e < 13 → e ≠ j → j ∉ deps2 e → dst2 e ≠ dst2 j := by decide
  refine hK v w' fr hfr ⟨?_, ?_, b2.below hb b2.lt, b3.trans (hb.mono b3.size)⟩ (fun e he hej hd u => fact2_mono hb e u) hf fun e he hej hd => ?_
  · unfold Facts.upd
    rw [if_neg (Ne.symm (hdj j hj).1), b0]
  · unfold Facts.upd
    rw [if_neg (Ne.symm (hdj j hj).2), b1]
  · unfold Facts.upd
    rw [if_neg (hde j hj e he hej hd)]
end Go.Proofs.YtdgmdpphimenjaaGreatDoor.L12

/-
  Layer 13: the example by which the document fixes what its laws ask: plain.
-/
namespace Go.Proofs.YtdgmdpphimenjaaGreatDoor.L13
open Go.RowKit Api Mem Sh8 Go.Maps Lv12 As13 L12

abbrev setX : Api.Instr := ⟨24, [120], [], [⟨2, [], 1⟩], [], []⟩
abbrev b0X : Api.Block := ⟨[98, 48], [], [], ⟨2, ⟨1, [107], 0⟩, [[98, 49], [98, 50]], 0⟩⟩
abbrev b1X : Api.Block := ⟨[98, 49], [], [setX], ⟨1, ⟨0, [], 0⟩, [[98, 50]], 0⟩⟩
abbrev b2X (c : List Instr) : Api.Block := ⟨[98, 50], [], c, ⟨3, ⟨1, [120], 0⟩, [], 0⟩⟩
abbrev blX (c : List Instr) : List Api.Block := [b0X, b1X, b2X c]
abbrev fX (c : List Instr) : Api.Func := ⟨[], [], [⟨[107], [105, 110, 116]⟩], [], blX c⟩
abbrev UX : List Wd := [[107], [120]]
theorem uokX : UOk UX := ⟨by decide, by decide⟩
theorem fokX1 : FOk UX (blX []) := ⟨by decide, by decide, by decide, by decide, by decide, by decide, by decide, by decide, by decide, by decide, by decide⟩
theorem fokX2 : FOk UX (blX [setX]) := ⟨by decide, by decide, by decide, by decide, by decide, by decide, by decide, by decide, by decide, by decide, by decide⟩
theorem egX (c : List Instr) : EG (blX c) = [(0, 1), (0, 2), (1, 2)] := by rfl
theorem rightX (c : List Instr) : RightP (blX c) := by
  have r0 : Sh8.Reach (blX c) b0X.name := .head rfl
  have r1 : Sh8.Reach (blX c) b1X.name := .step (b := b0X) (by simp) r0 (by decide)
  have r2 : Sh8.Reach (blX c) (b2X c).name := .step (b := b0X) (by simp) r0 (by show [98, 50] ∈ [[98, 49], [98, 50]]; decide)
  refine ⟨by simp, by show ([[98, 48], [98, 49], [98, 50]] : List Wd).Nodup; decide, fun b hb => ?_, fun b hb => ?_⟩
  · simp only [List.mem_cons, List.not_mem_nil, or_false] at hb
    rcases hb with rfl | rfl | rfl
    · refine ⟨by decide, ?_⟩
      show ∀ x ∈ ([[98, 49], [98, 50]] : List Wd), x ∈ ([[98, 48], [98, 49], [98, 50]] : List Wd) ∧ ([[98, 48], [98, 49], [98, 50]] : List Wd)[0]? ≠ some x
      decide
    · refine ⟨by decide, ?_⟩
      show ∀ x ∈ ([[98, 50]] : List Wd), x ∈ ([[98, 48], [98, 49], [98, 50]] : List Wd) ∧ ([[98, 48], [98, 49], [98, 50]] : List Wd)[0]? ≠ some x
      decide
    · exact ⟨List.nodup_nil, fun x h => by cases h⟩
  · simp only [List.mem_cons, List.not_mem_nil, or_false] at hb
    rcases hb with rfl | rfl | rfl
    · exact r0
    · exact r1
    · exact r2
/-- at the last block the parameter alone is set along every way. -/
theorem setX2 (x : Wd) : x ∈ ([[107]] : List Wd) ↔ SetF (fX []) 2 x := by
  have hk : ∀ i y, UnF (fX []) i y → y ≠ [107] := fun i y h => by
    induction h with
    | start hp => rintro rfl; exact hp (by simp [parN])
    | step _ _ _ _ ih => exact ih
  constructor
  · intro h hu
    rw [List.mem_singleton] at h
    exact hk 2 x hu h
  · intro h
    apply Classical.byContradiction
    intro hx
    rw [List.mem_singleton] at hx
    refine h (.step (a := 0) (by rw [egX]; simp) (.start (by simpa [parN] using hx)) ?_ ?_)
    · rfl
    · rfl
/-- x is used at the last block, and a way to it sets none. -/
theorem notX : ¬ SoundP (fX []) b0X := by
  intro h
  have h2 : LvB (blX []) 2 [120] := .gen (by decide)
  have h0 : LvB (blX []) 0 [120] := .step (i := 0) (j := 2) (by decide) h2 (by decide) (by decide)
  have := h [120] ((lv_at0 (i := 0) (b := b0X) rfl [120]).1 h0)
  simp at this
theorem huX : usesPh (blX [setX]) (EG (blX [setX])) 3 = [] := by rfl
theorem soundX : SoundP (fX [setX]) b0X := by
  have hl : ∀ i y, LvB (blX [setX]) i y → i = 0 ∧ y = [107] := fun i y h => by
    induction h with
    | @gen i y hg =>
      simp only [GG, Bool.and_eq_true, decide_eq_true_eq] at hg
      obtain ⟨hi, hg⟩ := hg
      have hi3 : i < 3 := hi
      rcases (by omega : i = 0 ∨ i = 1 ∨ i = 2) with rfl | rfl | rfl
      · rw [(SF_in (bl := blX [setX]) (i := 0) (b := b0X) rfl).2.2.2] at hg
        simpa [backL, backI, endS, usesT, usesI, namesA, namesF, namesO, namesB, orS, delS, huX] using hg
      · rw [(SF_in (bl := blX [setX]) (i := 1) (b := b1X) rfl).2.2.2] at hg
        simp [backL, backI, endS, usesT, usesI, namesA, namesF, namesO, namesB, orS, delS, huX] at hg
      · rw [(SF_in (bl := blX [setX]) (i := 2) (b := b2X [setX]) rfl).2.2.2] at hg
        simp [backL, backI, endS, usesT, usesI, namesA, namesF, namesO, namesB, orS, delS, huX] at hg
    | @step i j y he _ _ _ ih =>
      rw [egX] at he
      obtain ⟨rfl, _⟩ := ih
      simp at he
  intro x hx
  have := (hl 0 x ((lv_at0 (i := 0) (b := b0X) rfl x).2 hx)).2
  rw [this]
  simp
end Go.Proofs.YtdgmdpphimenjaaGreatDoor.L13

/-
  Layer 13: what the laws share: the answers that the document fixes.
-/
namespace Go.Proofs.YtdgmdpphimenjaaGreatDoor.L13
open Go.RowKit Api Mem Sh8 Go.Maps Lv12 As13 L12

theorem row_three13 {α : Type} {hi size : Nat} {w : World} {g : Nat} {t : TypeId} {cs ds es : List Value} {P : List Value → α → Prop} {x y z : α} (o : Mem.Own w g t (cs ++ ds ++ es)) (hg : g < hi) (hs : cs.length = size) (hs2 : ds.length = size) (hs3 : es.length = size) (hp : P cs x) (hp2 : P ds y) (hp3 : P es z) : Row 0 hi w size P (.slice (some ⟨g, 0, none⟩) 3 3) [x, y, z] := by
  refine ⟨_, 3, 3, g, 0, rfl, rfl, ⟨by omega, by omega⟩, fun _ => ⟨rfl, Nat.zero_le _, hg⟩, fun i u hu => ?_⟩
  match i, hu with
  | 0, hu =>
    obtain rfl : x = u := by simpa using hu
    refine ⟨cs, hs, fun j v hj => ?_, hp⟩
    have h1 := (List.getElem?_eq_some_iff.1 hj).1
    rw [show 0 + 0 * size + j = j by omega, o.cell, List.append_assoc, List.getElem?_append_left h1]
    exact hj
  | 1, hu =>
    obtain rfl : y = u := by simpa using hu
    refine ⟨ds, hs2, fun j v hj => ?_, hp2⟩
    have h1 := (List.getElem?_eq_some_iff.1 hj).1
    rw [show 0 + 1 * size + j = cs.length + j by omega, o.cell, List.append_assoc, List.getElem?_append_right (by omega), Nat.add_sub_cancel_left, List.getElem?_append_left h1]
    exact hj
  | 2, hu =>
    obtain rfl : z = u := by simpa using hu
    refine ⟨es, hs3, fun j v hj => ?_, hp3⟩
    have h1 := (List.getElem?_eq_some_iff.1 hj).1
    rw [show 0 + 2 * size + j = (cs ++ ds).length + j by rw [List.length_append]; omega, o.cell, List.getElem?_append_right (by omega), Nat.add_sub_cancel_left]
    exact hj
  | i + 3, hu => simp at hu
abbrev setC (ga : Nat) : List Value := [i64 24, str [120], str [], .slice (some ⟨ga, 0, none⟩) 1 1, nilS, nilS]
abbrev c0X (gd : Nat) : List Value := [str [98, 48], nilS, nilS, i64 2, i64 1, str [107], i64 0, .slice (some ⟨gd, 0, none⟩) 2 2, i64 0]
abbrev c1X (gc gt : Nat) : List Value := [str [98, 49], nilS, .slice (some ⟨gc, 0, none⟩) 1 1, i64 1, i64 0, str [], i64 0, .slice (some ⟨gt, 0, none⟩) 1 1, i64 0]
abbrev c2X (u : Value) : List Value := [str [98, 50], nilS, u, i64 3, i64 1, str [120], i64 0, nilS, i64 0]
/-- the example in memory. -/
structure AX (w : World) (gb gp gd gc gt ga : Nat) (u : Value) : Prop where
  b : Mem.Own w gb 51 (c0X gd ++ c1X gc gt ++ c2X u)
  p : Mem.Own w gp 45 [str [107], str [105, 110, 116]]
  d : Mem.Own w gd 9 ([str [98, 49]] ++ [str [98, 50]])
  c : Mem.Own w gc 43 (setC ga)
  t : Mem.Own w gt 9 [str [98, 50]]
  a : Mem.Own w ga 38 [i64 2, str [], i64 1]
theorem AX.below {w w' : World} {gb gp gd gc gt ga : Nat} {u : Value} (h : AX w gb gp gd gc gt ga u) (hb : Below w.heap.size w w') : AX w' gb gp gd gc gt ga u :=
  ⟨h.b.below hb h.b.lt, h.p.below hb h.p.lt, h.d.below hb h.d.lt, h.c.below hb h.c.lt, h.t.below hb h.t.lt, h.a.below hb h.a.lt⟩
abbrev fCX (gp gb : Nat) : List Value := [str [], str [], .slice (some ⟨gp, 0, none⟩) 1 1, nilS, .slice (some ⟨gb, 0, none⟩) 3 3]
theorem AX.func {w : World} {gb gp gd gc gt ga : Nat} {u : Value} {c : List Instr} (h : AX w gb gp gd gc gt ga u) (hu : Row 0 w.heap.size w 6 (InstrC 0 w.heap.size w) u c) : FuncC 0 w.heap.size w (fCX gp gb) (fX c) := by
  have hset : InstrC 0 w.heap.size w (setC ga) setX := ⟨_, _, _, rfl, row_one12 h.a h.a.lt rfl rfl, row_zero12, row_zero12⟩
  refine ⟨_, _, _, rfl, row_one12 h.p h.p.lt rfl rfl, row_zero12, row_three13 h.b h.b.lt rfl rfl rfl ?_ ?_ ?_⟩
  · exact ⟨_, _, _, rfl, row_zero12, row_zero12, _, rfl, row_two12 h.d h.d.lt rfl rfl rfl rfl⟩
  · exact ⟨_, _, _, rfl, row_zero12, row_one12 h.c h.c.lt rfl hset, _, rfl, row_one12 h.t h.t.lt rfl rfl⟩
  · exact ⟨_, _, _, rfl, row_zero12, hu, _, rfl, row_zero12⟩
theorem AX.code {w : World} {gb gp gd gc gt ga g2 : Nat} {u : Value} (h : AX w gb gp gd gc gt ga u) (h2 : Mem.Own w g2 43 (setC ga)) : Row 0 w.heap.size w 6 (InstrC 0 w.heap.size w) (.slice (some ⟨g2, 0, none⟩) 1 1) [setX] :=
  row_one12 h2 h2.lt rfl ⟨_, _, _, rfl, row_one12 h.a h.a.lt rfl rfl, row_zero12, row_zero12⟩
theorem ins_c {w : World} {gb gp gd gc gt ga : Nat} (h : AX w gb gp gd gc gt ga nilS) : Calls Tryz.prog 7 #[.agg (fCX gp gb).toArray] w (Ins13P (fX []) w) :=
  ins13_any uokX 0 _ w (fCX gp gb) (fX []) (h.func row_zero12) (Nat.le_refl _) fokX1 (by decide) (by decide) (by decide) (rightX _)
theorem right_1 {w : World} {gb gp gd gc gt ga : Nat} (h : AX w gb gp gd gc gt ga nilS) : Calls Tryz.prog 8 #[.agg (fCX gp gb).toArray] w fun e w' => e = .returned (.bool false) ∧ Below w.heap.size w w' :=
  (right13_any uokX 0 _ w (fCX gp gb) (fX []) (h.func row_zero12) (Nat.le_refl _) fokX1 (by decide) b0X rfl).mono fun e w' ⟨b, he, hb, hw⟩ => ⟨by
    cases b with
    | false => exact he
    | true => exact absurd (hb.1 rfl) notX, hw⟩
theorem right_2 {w : World} {gb gp gd gc gt ga g2 : Nat} (h : AX w gb gp gd gc gt ga (.slice (some ⟨g2, 0, none⟩) 1 1)) (h2 : Mem.Own w g2 43 (setC ga)) : Calls Tryz.prog 8 #[.agg (fCX gp gb).toArray] w fun e w' => e = .returned (.bool true) ∧ Below w.heap.size w w' :=
  (right13_any uokX 0 _ w (fCX gp gb) (fX [setX]) (h.func (h.code h2)) (Nat.le_refl _) fokX2 (by decide) b0X rfl).mono fun e w' ⟨b, he, hb, hw⟩ => ⟨by
    rw [he, hb.2 soundX], hw⟩
theorem made13 {w : World} {t : TypeId} {cs : List Value} {g : Nat} (hg : g = w.heap.size) : Mem.Own (w.alloc (.cells cs.toArray t)) g t cs := by
  subst hg
  exact Mem.Own.made w t cs
/-- the example as it is laid. -/
def litX (w : World) : World :=
  ((((((((w.alloc (.cells [i64 1, str [120], i64 0].toArray 38)).alloc (.cells [i64 2, str [], i64 1].toArray 38)).alloc (.cells (setC (w.heap.size + 1)).toArray 43)).alloc (.cells [str [107], str [105, 110, 116]].toArray 45)).alloc (.cells ([str [98, 49]] ++ [str [98, 50]]).toArray 9)).alloc (.cells (setC (w.heap.size + 1)).toArray 43)).alloc (.cells [str [98, 50]].toArray 9)).alloc (.cells (c0X (w.heap.size + 1 + 1 + 1 + 1) ++ c1X (w.heap.size + 1 + 1 + 1 + 1 + 1) (w.heap.size + 1 + 1 + 1 + 1 + 1 + 1) ++ c2X nilS).toArray 51)).alloc (.cells (fCX (w.heap.size + 1 + 1 + 1) (w.heap.size + 1 + 1 + 1 + 1 + 1 + 1 + 1)).toArray 25)
set_option maxHeartbeats 2000000 in
theorem litX_ax (w : World) : AX (litX w) (w.heap.size + 1 + 1 + 1 + 1 + 1 + 1 + 1) (w.heap.size + 1 + 1 + 1) (w.heap.size + 1 + 1 + 1 + 1) (w.heap.size + 1 + 1 + 1 + 1 + 1) (w.heap.size + 1 + 1 + 1 + 1 + 1 + 1) (w.heap.size + 1) nilS := by
  unfold litX
  exact ⟨(made13 (by simp)).alloc _, (((((made13 (by simp)).alloc _).alloc _).alloc _).alloc _).alloc _, ((((made13 (by simp)).alloc _).alloc _).alloc _).alloc _, (((made13 (by simp)).alloc _).alloc _).alloc _, ((made13 (by simp)).alloc _).alloc _, (((((((made13 (by simp)).alloc _).alloc _).alloc _).alloc _).alloc _).alloc _).alloc _⟩
theorem litX_f (w : World) : Mem.Own (litX w) (w.heap.size + 1 + 1 + 1 + 1 + 1 + 1 + 1 + 1) 25 (fCX (w.heap.size + 1 + 1 + 1) (w.heap.size + 1 + 1 + 1 + 1 + 1 + 1 + 1)) := by
  unfold litX
  exact made13 (by simp)
theorem litX_s (w : World) : Mem.Own (litX w) (w.heap.size + 1 + 1) 43 (setC (w.heap.size + 1)) := by
  unfold litX
  exact (((((((made13 (by simp)).alloc _).alloc _).alloc _).alloc _).alloc _).alloc _)
theorem litX_b (w : World) : Below w.heap.size w (litX w) := by
  unfold litX
  exact (((((((((Below.refl _ w).alloc (Nat.le_refl _) _).alloc (by simp) _).alloc (by simp; omega) _).alloc (by simp; omega) _).alloc (by simp; omega) _).alloc (by simp; omega) _).alloc (by simp; omega) _).alloc (by simp; omega) _).alloc (by simp; omega) _
set_option maxRecDepth 100000 in
set_option maxHeartbeats 16000000 in
theorem awake13_any (w : World) : Calls Tryz.prog 4 #[] w fun e w' => e = .returned (.bool true) ∧ Below w.heap.size w w' := by
  go_enter Tryz.func4, Tryz.ntmps4
  go_wp2_with fail
  change Calls _ _ _ (litX w) _
  have HA := Lib.hid (litX_ax w)
  have HF := Lib.hid (litX_f w)
  have HS := Lib.hid (litX_s w)
  have HB := Lib.hid (litX_b w)
  refine (ins_c HA.out).mono ?_
  rintro e w2 ⟨Bv, rfl, hr2, hb2⟩
  have HA2 := Lib.hid (HA.out.below hb2)
  have HF2 := Lib.hid (HF.out.below hb2 HF.out.lt)
  have HS2 := Lib.hid (HS.out.below hb2 HS.out.lt)
  have HB2 := Lib.hid (HB.out.trans (hb2.mono HB.out.size))
  have HR2 := Lib.hid hr2
  have HQ2 := Lib.hid (right_1 HA2.out)
  have f0 := HF2.out.cell 0
  have f1 := HF2.out.cell 1
  have f2 := HF2.out.cell 2
  have f3 := HF2.out.cell 3
  have f4 := HF2.out.cell 4
  simp only [List.getElem?_cons_zero, List.getElem?_cons_succ] at f0 f1 f2 f3 f4
  clear HA HF HS hr2 hb2
  go_wp2_with fail
  refine HQ2.out.mono ?_
  rintro e w3 ⟨rfl, hb3⟩
  have HA3 := Lib.hid (HA2.out.below hb3)
  have HF3 := Lib.hid (HF2.out.below hb3 HF2.out.lt)
  have HS3 := Lib.hid (HS2.out.below hb3 HS2.out.lt)
  have HB3 := Lib.hid (HB2.out.trans (hb3.mono HB2.out.size))
  have HR3 := Lib.hid (HR2.out.below hb3)
  clear f0 f1 f2 f3 f4 hb3 HQ2 HA2 HF2 HS2 HB2 HR2
  have f0 := HF3.out.cell 0
  have f1 := HF3.out.cell 1
  have f2 := HF3.out.cell 2
  have f3 := HF3.out.cell 3
  have f4 := HF3.out.cell 4
  have s0 := HS3.out.cell 0
  have s1 := HS3.out.cell 1
  have s2 := HS3.out.cell 2
  have s3 := HS3.out.cell 3
  have s4 := HS3.out.cell 4
  have s5 := HS3.out.cell 5
  have x20 := HA3.out.b.cell 20
  have t20 := HA3.out.b.thaw 20
  simp only [List.getElem?_cons_zero, List.getElem?_cons_succ, List.cons_append, List.nil_append] at f0 f1 f2 f3 f4 s0 s1 s2 s3 s4 s5 x20
  clear x20 t20
  have HA4 := Lib.hid (HA3.out.below (show Below w3.heap.size w3 (w3.alloc (.cells #[i64 24, str [120], str [], .slice (some ⟨w.heap.size + 1, 0, none⟩) 1 1, nilS, nilS] 43)) from (Below.refl _ _).alloc (Nat.le_refl _) _))
  have x20 := HA4.out.b.cell 20
  have t20 := HA4.out.b.thaw 20
  simp only [List.getElem?_cons_zero, List.getElem?_cons_succ, List.cons_append, List.nil_append] at x20
  obtain ⟨vs, r1, r2, r3, r4⟩ := HR3.out
  obtain ⟨v2, rr, e2, q1, q2, q3⟩ := r4 2 (by decide)
  obtain rfl : rr = [[107]] := rise_eq q1 ⟨by decide, by decide⟩ fun x => (q2 x).trans (setX2 x).symm
  have HV := Lib.hid r1
  have HVE := Lib.hid e2
  have HVR := Lib.hid q3
  clear r1 r2 r3 r4 q1 q2 q3 e2 HR3
  obtain ⟨w5, hw5⟩ : ∃ w5, (w3.alloc (.cells #[i64 24, str [120], str [], .slice (some ⟨w.heap.size + 1, 0, none⟩) 1 1, nilS, nilS] 43)).setCell ⟨w.heap.size + 1 + 1 + 1 + 1 + 1 + 1 + 1, 20, none⟩ (.slice (some ⟨w3.heap.size, 0, none⟩) 1 1) = w5 := ⟨_, rfl⟩
  have HW5 := Lib.hid hw5
  have b34 : Below w3.heap.size w3 (w3.alloc (.cells #[i64 24, str [120], str [], .slice (some ⟨w.heap.size + 1, 0, none⟩) 1 1, nilS, nilS] 43)) := (Below.refl _ _).alloc (Nat.le_refl _) _
  have hkeep : ∀ (q : Nat) (t : TypeId) (cs : List Value), Mem.Own w3 q t cs → t ≠ 51 → Mem.Own w5 q t cs := fun q t cs h ht => by
    rw [← hw5]
    exact keep1 (h.below b34 h.lt) (own_ne (h.below b34 h.lt) HA4.out.b ht)
  have HG5 := Lib.hid (show Mem.Own w5 w3.heap.size 43 (setC (w.heap.size + 1)) by
    rw [← hw5]
    have h := Mem.Own.made w3 43 (setC (w.heap.size + 1))
    exact keep1 h (own_ne h HA4.out.b (by decide)))
  have HA5 := Lib.hid (show AX w5 (w.heap.size + 1 + 1 + 1 + 1 + 1 + 1 + 1) (w.heap.size + 1 + 1 + 1) (w.heap.size + 1 + 1 + 1 + 1) (w.heap.size + 1 + 1 + 1 + 1 + 1) (w.heap.size + 1 + 1 + 1 + 1 + 1 + 1) (w.heap.size + 1) (.slice (some ⟨w3.heap.size, 0, none⟩) 1 1) from
    ⟨by rw [← hw5]; exact HA4.out.b.store 20 _, hkeep _ _ _ HA3.out.p (by decide), hkeep _ _ _ HA3.out.d (by decide), hkeep _ _ _ HA3.out.c (by decide), hkeep _ _ _ HA3.out.t (by decide), hkeep _ _ _ HA3.out.a (by decide)⟩)
  have HF5 := Lib.hid (hkeep _ _ _ HF3.out (by decide))
  have HV5 := Lib.hid (hkeep _ _ _ HV.out (by decide))
  have HVR5 := Lib.hid (show w5.ownsRow (litX w).heap.size 9 1 v2 1 [str [107]] from by
    rw [← hw5]
    exact row_other (own_below HVR.out b34) (grown_cell _ _ _) (notT_own HA4.out.b (by decide)))
  have HB5 := Lib.hid (show Below w.heap.size w w5 by
    rw [← hw5]
    exact (HB3.out.trans (b34.mono HB3.out.size)).setCell (by show w.heap.size ≤ w.heap.size + 1 + 1 + 1 + 1 + 1 + 1 + 1; omega) _)
  obtain ⟨A9, k9, rfl⟩ := row_form HVR5.out
  have l2 := HV5.out.cell 2
  rw [HVE.out, ← HW5.out] at l2
  clear hw5 b34 hkeep HV HVR HF3 HS3 HB3
  go_wp2_with fail
  rw [HW5.out]
  have hz5 : w3.heap.size + 1 = w5.heap.size := by rw [← HW5.out]; simp
  have b56 : Below w5.heap.size w5 (w5.alloc (.cells #[.string ⟨#[107]⟩] 9)) := (Below.refl _ _).alloc (Nat.le_refl _) _
  refine (same12_any (litX w).heap.size (w5.alloc (.cells #[.string ⟨#[107]⟩] 9)).heap.size 0 (w5.alloc (.cells #[.string ⟨#[107]⟩] 9)).heap.size _ _ _ [[107]] [[107]] (texts_own (own_below HVR5.out b56) rfl (by decide)) (row_one12 (made13 (cs := [str [107]]) hz5) (by simp; omega) rfl rfl) (Nat.le_refl _) (Nat.le_refl _)).mono ?_
  rintro e w6 ⟨b, rfl, hb, hb6⟩
  obtain rfl : b = true := hb.2 rfl
  have b57 := b56.trans (hb6.mono b56.size)
  have HA6 := Lib.hid (HA5.out.below b57)
  have HG6 := Lib.hid (HG5.out.below b57 HG5.out.lt)
  have HF6 := Lib.hid (HF5.out.below b57 HF5.out.lt)
  have HB6 := Lib.hid (HB5.out.trans (b57.mono HB5.out.size))
  clear b56 hb6 hb b57 hz5 f0 f1 f2 f3 f4 s0 s1 s2 s3 s4 s5 x20 t20 l2 HA5 HG5 HF5 HB5
  have f0 := HF6.out.cell 0
  have f1 := HF6.out.cell 1
  have f2 := HF6.out.cell 2
  have f3 := HF6.out.cell 3
  have f4 := HF6.out.cell 4
  simp only [List.getElem?_cons_zero, List.getElem?_cons_succ] at f0 f1 f2 f3 f4
  go_wp2_with fail
  refine (right_2 HA6.out HG6.out).mono ?_
  rintro e w7 ⟨rfl, hb7⟩
  go_wp2_with fail
  refine bodyPost_ret (results_tmp rfl _ _ _) rfl ⟨rfl, HB6.out.trans (hb7.mono HB6.out.size)⟩
end Go.Proofs.YtdgmdpphimenjaaGreatDoor.L13
