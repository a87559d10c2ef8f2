/-
  LvFacts Law12
-/
import Derived.StillTailTactics
import Derived.RegionTactic
import Derived.Test.YtdgmdpphimenjaaDoorMem
import Derived.Test.YtdgmdpphimenjaaDoorLvB
import Derived.Laws.ResultCell
/-
  A region that draws its order, by what holds of each of its operations once it is done. No program is named here.
-/
namespace Go.Proofs.YtdgmdpphimenjaaDoor.Facts
open Go.RowKit
variable {P : Program} {md : Region.Mode} {ops : Array Oper} {Q : Exit → Go.Act → World → Prop}
def upd (f : Nat → Value) (i : Nat) (a : Value) (j : Nat) : Value := if j = i then a else f j
theorem count_lt {p q : Nat → Bool} : ∀ {l : List Nat} {j : Nat}, (∀ i, q i = true → p i = true) → j ∈ l → p j = true → q j = false → l.countP q < l.countP p
  | a :: l, j, h, hj, hp, hq => by
    have hle : l.countP q ≤ l.countP p := List.countP_mono_left fun x _ hx => h x hx
    rw [List.countP_cons, List.countP_cons]
    by_cases e : a = j
    · subst e
      rw [if_pos hp, if_neg (by rw [hq]; simp)]
      omega
    · have := count_lt h (List.mem_of_ne_of_mem (Ne.symm e) hj) hp hq
      by_cases e1 : q a = true
      · rw [if_pos e1, if_pos (h a e1)]
        omega
      · rw [if_neg e1]
        split <;> omega
/-- how many are still to come. -/
def left (n : Nat) (listed : Array Bool) : Nat := (List.range n).countP fun j => !listed.getD j false
theorem left_lt {n j : Nat} {listed : Array Bool} (hs : listed.size = n) (hj : j < n) (hl : listed.getD j true = false) : left n (listed.setIfInBounds j true) < left n listed := by
  unfold left
  have hg : listed.getD j false = false := by
    rw [Array.getD_eq_getD_getElem?] at hl ⊢
    rw [Array.getElem?_eq_getElem (by omega)] at hl ⊢
    simpa using hl
  refine count_lt (j := j) (fun i hi => ?_) (List.mem_range.2 hj) (by simp [hg]) ?_
  · by_cases e : j = i
    · subst e
      simp [Array.getD_eq_getD_getElem?, Array.getElem?_setIfInBounds, hs, hj] at hi
    · rwa [getD_set_ne false e] at hi
  · simp [Array.getD_eq_getD_getElem?, Array.getElem?_setIfInBounds, hs, hj]
theorem some_ready {listed : Array Bool} (hs : listed.size = ops.size) (hac : ∀ (j : Nat) (o : Oper), ops[j]? = some o → ∀ x ∈ o.after, x.on < j) : ∀ j : Nat, j < ops.size → listed.getD j true = false → Region.ready md ops listed ≠ [] := by
  intro j
  induction j using Nat.strongRecOn with
  | _ j ih =>
    intro hj hl
    obtain ⟨o, ho⟩ : ∃ o, ops[j]? = some o := ⟨_, Array.getElem?_eq_getElem hj⟩
    by_cases hall : ∀ x ∈ o.after, Region.binds md x = true → listed.getD x.on false = true
    · intro h0
      have : j ∈ Region.ready md ops listed := mem_ready.2 ⟨hl, o, ho, hall⟩
      rw [h0] at this
      cases this
    · have : ∃ x, x ∈ o.after ∧ Region.binds md x = true ∧ ¬ listed.getD x.on false = true := by
        apply Classical.byContradiction
        intro h
        apply hall
        intro x hx hb
        apply Classical.byContradiction
        intro h2
        exact h ⟨x, hx, hb, h2⟩
      obtain ⟨x, hx, hb, hl2⟩ := this
      have hxj := hac j o ho x hx
      refine ih x.on hxj (by omega) ?_
      rw [Array.getD_eq_getD_getElem?] at hl2 ⊢
      rw [Array.getElem?_eq_getElem (by omega)] at hl2 ⊢
      simpa using hl2
theorem wpAny_facts (mk : (Nat → Value) → Go.Act) (n : Nat) (hn : ops.size = n) (dst : Nat → Nat) (fact : Nat → Value → World → Prop) (Bs : (Nat → Value) → World → Prop) (deps : Nat → List Nat)
    (hac : ∀ (j : Nat) (o : Oper), ops[j]? = some o → ∀ x ∈ o.after, x.on < j) (hd : ∀ j, j < n → ∀ e ∈ deps j, ∃ o, ops[j]? = some o ∧ ∃ x ∈ o.after, Region.binds md x = true ∧ x.on = e) (hdn : ∀ j, j < n → ∀ e ∈ deps j, e < n)
    (hops : ∀ j, j < n → ∀ (F : Nat → Value) (w : World) (K : Go.Act → World → Prop), Bs F w → (∀ e ∈ deps j, fact e (F (dst e)) w) →
      (∀ v w', Bs (upd F (dst j) v) w' → (∀ e, e < n → e ≠ j → j ∉ deps e → ∀ u, fact e u w → fact e u w') → fact j v w' → (∀ e, e < n → e ≠ j → j ∉ deps e → upd F (dst j) v (dst e) = F (dst e)) → K (mk (upd F (dst j) v)) w') → wpOp P ops Q j K (mk F) w)
    (hend : ∀ F w, Bs F w → (∀ j, j < n → fact j (F (dst j)) w) → Q .normal (mk F) w) :
    ∀ (fuel : Nat) (listed : Array Bool) (F : Nat → Value) (w : World), listed.size = n → left n listed ≤ fuel → (∀ e, e < n → listed.getD e true = true → ∀ x ∈ deps e, listed.getD x true = true) → Bs F w → (∀ j, j < n → listed.getD j true = true → fact j (F (dst j)) w) → wpAny P md ops Q fuel listed (mk F) w := by
  have hfin : ∀ (listed : Array Bool) (F : Nat → Value) (w : World), listed.size = n → Bs F w → (∀ j, j < n → listed.getD j true = true → fact j (F (dst j)) w) → left n listed = 0 → Region.ready md ops listed = [] ∧ Q .normal (mk F) w := by
    intro listed F w hs hb hf h0
    have hall : ∀ j, j < n → listed.getD j true = true := fun j hj => by
      cases e : listed.getD j true with
      | true => rfl
      | false =>
        have := left_lt hs hj e
        omega
    refine ⟨?_, hend F w hb fun j hj => hf j hj (hall j hj)⟩
    rw [List.eq_nil_iff_forall_not_mem]
    intro j hj
    obtain ⟨h1, o, h2, _⟩ := mem_ready.1 hj
    have hjl := (Array.getElem?_eq_some_iff.1 h2).1
    rw [hall j (by omega)] at h1
    cases h1
  intro fuel
  induction fuel with
  | zero => intro listed F w hs hl _ hb hf; exact hfin listed F w hs hb hf (by omega)
  | succ fuel ih =>
    intro listed F w hs hl hcl hb hf
    refine ⟨fun h0 => ?_, fun j hj => ?_⟩
    · by_cases e : left n listed = 0
      · exact (hfin listed F w hs hb hf e).2
      · have hpos : 0 < left n listed := by omega
        unfold left at hpos
        obtain ⟨j, hj, hj2⟩ := List.countP_pos_iff.1 hpos
        have hjn := List.mem_range.1 hj
        have hl2 : listed.getD j true = false := by
          rw [Array.getD_eq_getD_getElem?] at hj2 ⊢
          rw [Array.getElem?_eq_getElem (by omega)] at hj2 ⊢
          simpa using hj2
        exact absurd h0 (some_ready (by omega) hac j (by omega) hl2)
    · obtain ⟨h1, o, h2, h3⟩ := mem_ready.1 hj
      have hjl : j < n := by have := (Array.getElem?_eq_some_iff.1 h2).1; omega
      have hdl : ∀ e ∈ deps j, listed.getD e true = true := fun e he => by
        obtain ⟨o', h4, x, hx, hbd, hon⟩ := hd j hjl e he
        rw [h2] at h4
        cases h4
        have := h3 x hx hbd
        rw [hon] at this
        have hen := hdn j hjl e he
        rw [Array.getD_eq_getD_getElem?] at this ⊢
        rw [Array.getElem?_eq_getElem (by omega)] at this ⊢
        simpa using this
      refine hops j hjl F w _ hb (fun e he => hf e (hdn j hjl e he) (hdl e he)) fun v w' q1 q2 q3 q4 => ?_
      refine ih (listed.setIfInBounds j true) _ w' (by simpa using hs) (by have := left_lt hs hjl h1; omega) (fun e he hle x hx => ?_) q1 fun e he hle => ?_
      · by_cases e3 : j = x
        · subst e3
          simp [Array.getD_eq_getD_getElem?, Array.getElem?_setIfInBounds, hs, hjl]
        · rw [getD_set_ne true e3]
          by_cases e2 : e = j
          · subst e2
            exact hdl x hx
          · rw [getD_set_ne true (Ne.symm e2)] at hle
            exact hcl e he hle x hx
      · by_cases e2 : e = j
        · subst e2
          unfold upd
          rw [if_pos rfl]
          exact q3
        · rw [getD_set_ne true (Ne.symm e2)] at hle
          have hnd : j ∉ deps e := fun hm => by
            have := hcl e he hle j hm
            rw [h1] at this
            cases this
          rw [q4 e he e2 hnd]
          exact q2 e he e2 hnd _ (hf e he hle)
theorem op_wp {j : Nat} {o : Oper} {K : Go.Act → World → Prop} {a : Go.Act} {w : World} (hi : ops[j]? = some o) (hg : o.guard = none) (h : o.wp P a w K Q) : wpOp P ops Q j K a w := by
  unfold wpOp
  rw [hi]
  simp only
  rw [if_pos (by simp [Region.wanted, hg])]
  exact .inl h
/-- the two conditions on the list of the operations, by reckoning. -/
def acyc (ops : Array Oper) : Bool := (List.range ops.size).all fun j => match ops[j]? with
  | some o => o.after.all fun x => decide (x.on < j)
  | none => true
def depsOk (md : Region.Mode) (ops : Array Oper) (n : Nat) (deps : Nat → List Nat) : Bool := (List.range n).all fun j => (deps j).all fun e => match ops[j]? with
  | some o => o.after.any fun x => Region.binds md x && decide (x.on = e)
  | none => false
theorem acyc_spec (h : acyc ops = true) : ∀ (j : Nat) (o : Oper), ops[j]? = some o → ∀ x ∈ o.after, x.on < j := by
  intro j o ho x hx
  have h1 := List.all_eq_true.1 h j (List.mem_range.2 (Array.getElem?_eq_some_iff.1 ho).1)
  rw [ho] at h1
  exact of_decide_eq_true (Array.all_eq_true'.1 h1 x hx)
theorem deps_spec {n : Nat} {deps : Nat → List Nat} (h : depsOk md ops n deps = true) : ∀ j, j < n → ∀ e ∈ deps j, ∃ o, ops[j]? = some o ∧ ∃ x ∈ o.after, Region.binds md x = true ∧ x.on = e := by
  intro j hj e he
  have h1 := List.all_eq_true.1 (List.all_eq_true.1 h j (List.mem_range.2 hj)) e he
  cases ho : ops[j]? with
  | none => rw [ho] at h1; cases h1
  | some o =>
    rw [ho] at h1
    simp only at h1
    obtain ⟨i, hi, hx⟩ := Array.any_eq_true.1 h1
    rw [Bool.and_eq_true] at hx
    exact ⟨o, rfl, _, Array.getElem_mem hi, hx.1, of_decide_eq_true hx.2⟩
end Go.Proofs.YtdgmdpphimenjaaDoor.Facts

/-
  Layer 12: what the laws share: the answers that the document fixes.
-/
namespace Go.Proofs.YtdgmdpphimenjaaDoor.L12
open Go.RowKit Api Mem Sh8 Go.Maps Lv12
theorem results_cell12 {fn : Func} {p : Tmp} {ty : TypeId} (h : fn.results = #[.cell p ty]) (tmps : Array Value) (P : Program) (w : World) :
    (results fn tmps).run P w = ((asAddr (tmps.getD p undef)).run P w).andThen fun a w₁ => (loadVar ty a).run P w₁ := by
  simp only [results, h]
  simp [Sem.run_bind, Result.andThen]
set_option maxRecDepth 100000 in
set_option maxHeartbeats 2000000 in
theorem v_any (w : World) (s : Wd) : Calls Tryd.prog 32 #[str s] w fun e w' => e = .returned (.agg #[i64 1, str s, i64 0]) ∧ Below w.heap.size w w' := by
  have HO := Lib.hid (Mem.Own.made w 44 [i64 1, str s, i64 0])
  go_enter Tryd.func32, Tryd.ntmps32
  go_wp2_with fail
  have n0 := HO.out.cell 0
  have n1 := HO.out.cell 1
  have n2 := HO.out.cell 2
  simp only [List.getElem?_cons_zero, List.getElem?_cons_succ] at n0 n1 n2
  refine bodyPost_ret (v := .agg #[i64 1, str s, i64 0]) (by rw [results_cell12 rfl]; go_simp) rfl ⟨rfl, (Below.refl _ w).alloc (Nat.le_refl _) _⟩
/-- the slots. -/
def mkA (F : Nat → Value) : Go.Act := { tmps := #[F 0, F 1, F 2, F 3, F 4, F 5, F 6, F 7, F 8, F 9, F 10, F 11, F 12, F 13, F 14, F 15, F 16, F 17, F 18, F 19, F 20, F 21, F 22, F 23, F 24, F 25, F 26, F 27, F 28, F 29, F 30, F 31, F 32, F 33, F 34, F 35, F 36, F 37, F 38, F 39, F 40], defers := [] }
def dst2 (j : Nat) : Nat := [5,6,7,8,9,10,11,12,13,14,15,2,2].getD j 0
def deps2 (j : Nat) : List Nat := [[],[0],[1],[],[3],[3,4],[5],[2,6],[4],[8],[7,9],[],[0,1,2,3,4,5,6,7,8,9,10,11]].getD j []
abbrev nilS : Value := .slice none 0 0
def A1 (b0 : Nat) (w : World) (g : Nat) : Prop := Mem.Own w g 44 [i64 2, str [], i64 1] ∧ b0 ≤ g
def A2 (b0 : Nat) (w : World) (g : Nat) : Prop := Mem.Own w g 44 [i64 1, str [120], i64 0, i64 1, str [122], i64 0] ∧ b0 ≤ g
abbrev i0C (g : Nat) : List Value := [i64 24, str [120], str [], .slice (some ⟨g, 0, none⟩) 1 1, nilS, nilS]
abbrev i1C (g : Nat) : List Value := [i64 1, str [121], str [], .slice (some ⟨g, 0, none⟩) 2 2, nilS, nilS]
def A3 (b0 : Nat) (w : World) (g : Nat) : Prop := ∃ g1 g2, Mem.Own w g 72 (i0C g1 ++ i1C g2) ∧ A1 b0 w g1 ∧ A2 b0 w g2 ∧ b0 ≤ g
abbrev bC (g : Nat) : List Value := [str [98], nilS, .slice (some ⟨g, 0, none⟩) 2 2, i64 3, i64 1, str [121], i64 0, nilS, i64 0]
/-- what holds of each operation. -/
def fact2 (b0 : Nat) : Nat → Value → World → Prop
  | 0, v, _ => v = .agg #[i64 2, str [], i64 1]
  | 1, v, w => ∃ g, v = .slice (some ⟨g, 0, none⟩) 1 1 ∧ A1 b0 w g
  | 2, v, w => ∃ g, v = .agg (i0C g).toArray ∧ A1 b0 w g
  | 3, v, _ => v = .agg #[i64 1, str [120], i64 0]
  | 4, v, _ => v = .agg #[i64 1, str [122], i64 0]
  | 5, v, w => ∃ g, v = .slice (some ⟨g, 0, none⟩) 2 2 ∧ A2 b0 w g
  | 6, v, w => ∃ g, v = .agg (i1C g).toArray ∧ A2 b0 w g
  | 7, v, w => ∃ g, v = .slice (some ⟨g, 0, none⟩) 2 2 ∧ A3 b0 w g
  | 8, v, _ => v = .agg #[i64 1, str [121], i64 0]
  | 9, v, _ => v = .agg #[i64 3, i64 1, str [121], i64 0, nilS, i64 0]
  | 10, v, w => ∃ g, v = .agg (bC g).toArray ∧ A3 b0 w g
  | 11, v, w => ∃ p cs, v = .pointer (some ⟨p, 0, none⟩) ∧ Mem.Own w p 60 cs ∧ cs.length = 9 ∧ b0 ≤ p
  | _, v, w => ∃ p g, v = .pointer (some ⟨p, 0, none⟩) ∧ Mem.Own w p 60 (bC g) ∧ b0 ≤ p ∧ A3 b0 w g
theorem A1.below {b0 : Nat} {w w' : World} {g : Nat} (h : A1 b0 w g) (hb : Below w.heap.size w w') : A1 b0 w' g := ⟨h.1.below hb h.1.lt, h.2⟩
theorem A2.below {b0 : Nat} {w w' : World} {g : Nat} (h : A2 b0 w g) (hb : Below w.heap.size w w') : A2 b0 w' g := ⟨h.1.below hb h.1.lt, h.2⟩
theorem A3.below {b0 : Nat} {w w' : World} {g : Nat} (h : A3 b0 w g) (hb : Below w.heap.size w w') : A3 b0 w' g := by
  obtain ⟨g1, g2, h1, h2, h3, h4⟩ := h
  exact ⟨g1, g2, h1.below hb h1.lt, h2.below hb, h3.below hb, h4⟩
theorem fact2_mono {b0 : Nat} {w w' : World} (hb : Below w.heap.size w w') : ∀ (j : Nat) (v : Value), fact2 b0 j v w → fact2 b0 j v w'
  | 0, _, h => h
  | 1, _, ⟨g, h, k⟩ => ⟨g, h, k.below hb⟩
  | 2, _, ⟨g, h, k⟩ => ⟨g, h, k.below hb⟩
  | 3, _, h => h
  | 4, _, h => h
  | 5, _, ⟨g, h, k⟩ => ⟨g, h, k.below hb⟩
  | 6, _, ⟨g, h, k⟩ => ⟨g, h, k.below hb⟩
  | 7, _, ⟨g, h, k⟩ => ⟨g, h, k.below hb⟩
  | 8, _, h => h
  | 9, _, h => h
  | 10, _, ⟨g, h, k⟩ => ⟨g, h, k.below hb⟩
  | 11, _, ⟨p, cs, h, k, l, m⟩ => ⟨p, cs, h, k.below hb k.lt, l, m⟩
  | _ + 12, _, ⟨p, g, h, k, l, m⟩ => ⟨p, g, h, k.below hb k.lt, l, m.below hb⟩
def Bs2 (w0 : World) (F : Nat → Value) (w : World) : Prop := F 0 = .bool false ∧ F 1 = .pointer (some ⟨w0.heap.size, 0, none⟩) ∧ Mem.Own w w0.heap.size 44 [i64 2, str [], i64 1] ∧ Below w0.heap.size w0 w
/-- A row of one, just laid. -/
theorem row_one12 {α : Type} {hi size : Nat} {w : World} {g : Nat} {t : TypeId} {cs : List Value} {P : List Value → α → Prop} {x : α} (o : Mem.Own w g t cs) (hg : g < hi) (hs : cs.length = size) (hp : P cs x) : Row 0 hi w size P (.slice (some ⟨g, 0, none⟩) 1 1) [x] := by
  refine ⟨_, 1, 1, g, 0, rfl, rfl, ⟨by omega, by omega⟩, fun _ => ⟨rfl, Nat.zero_le _, hg⟩, fun i y hy => ?_⟩
  match i, hy with
  | 0, hy =>
    obtain rfl : x = y := by simpa using hy
    exact ⟨cs, hs, fun j u hj => by rw [show 0 + 0 * size + j = j by omega]; exact (o.cell j).trans hj, hp⟩
  | i + 1, hy => simp at hy
theorem row_two12 {α : Type} {hi size : Nat} {w : World} {g : Nat} {t : TypeId} {cs ds : List Value} {P : List Value → α → Prop} {x y : α} (o : Mem.Own w g t (cs ++ ds)) (hg : g < hi) (hs : cs.length = size) (hs2 : ds.length = size) (hp : P cs x) (hp2 : P ds y) : Row 0 hi w size P (.slice (some ⟨g, 0, none⟩) 2 2) [x, y] := by
  refine ⟨_, 2, 2, g, 0, rfl, rfl, ⟨by omega, by omega⟩, fun _ => ⟨rfl, Nat.zero_le _, hg⟩, fun i z hz => ?_⟩
  match i, hz with
  | 0, hz =>
    obtain rfl : x = z := by simpa using hz
    refine ⟨cs, hs, fun j u hj => ?_, hp⟩
    rw [show 0 + 0 * size + j = j by omega, o.cell, List.getElem?_append_left (List.getElem?_eq_some_iff.1 hj).1]
    exact hj
  | 1, hz =>
    obtain rfl : y = z := by simpa using hz
    refine ⟨ds, hs2, fun j u hj => ?_, hp2⟩
    rw [show 0 + 1 * size + j = cs.length + j by omega, o.cell, List.getElem?_append_right (by omega), Nat.add_sub_cancel_left]
    exact hj
  | i + 2, hz => simp at hz
theorem row_zero12 {α : Type} {hi size : Nat} {w : World} {P : List Value → α → Prop} : Row 0 hi w size P nilS ([] : List α) := ⟨none, 0, 0, 0, 0, rfl, rfl, by omega, by omega, fun i x h => by simp at h⟩
/-- awake's function. -/
abbrev i0A : Api.Instr := ⟨24, [120], [], [⟨2, [], 1⟩], [], []⟩
abbrev i1A : Api.Instr := ⟨1, [121], [], [⟨1, [120], 0⟩, ⟨1, [122], 0⟩], [], []⟩
abbrev bA : Api.Block := ⟨[98], [], [i0A, i1A], ⟨3, ⟨1, [121], 0⟩, [], 0⟩⟩
abbrev fA : Api.Func := ⟨[], [], [], [], [bA]⟩
structure AW (w : World) (g0 g g1 g2 : Nat) : Prop where
  b : Mem.Own w g0 60 (bC g)
  i : Mem.Own w g 72 (i0C g1 ++ i1C g2)
  a1 : Mem.Own w g1 44 [i64 2, str [], i64 1]
  a2 : Mem.Own w g2 44 [i64 1, str [120], i64 0, i64 1, str [122], i64 0]
theorem AW.below {w w' : World} {g0 g g1 g2 : Nat} (h : AW w g0 g g1 g2) (hb : Below w.heap.size w w') : AW w' g0 g g1 g2 := ⟨h.b.below hb h.b.lt, h.i.below hb h.i.lt, h.a1.below hb h.a1.lt, h.a2.below hb h.a2.lt⟩
abbrev fC (g0 : Nat) : List Value := [str [], str [], nilS, nilS, .slice (some ⟨g0, 0, none⟩) 1 1]
theorem AW.func {w : World} {g0 g g1 g2 : Nat} (h : AW w g0 g g1 g2) : FuncC 0 w.heap.size w (fC g0) fA := by
  refine ⟨_, _, _, rfl, row_zero12, row_zero12, row_one12 h.b h.b.lt rfl ⟨_, _, _, rfl, row_zero12, row_two12 h.i h.i.lt rfl rfl ?_ ?_, _, rfl, row_zero12⟩⟩
  · exact ⟨_, _, _, rfl, row_one12 h.a1 h.a1.lt rfl rfl, row_zero12, row_zero12⟩
  · exact ⟨_, _, _, rfl, row_two12 (cs := [i64 1, str [120], i64 0]) (ds := [i64 1, str [122], i64 0]) h.a2 h.a2.lt rfl rfl rfl rfl, row_zero12, row_zero12⟩
abbrev UA : List Wd := [[120], [121], [122]]
theorem uokA : UOk UA := ⟨by decide, by decide⟩
theorem oneA : OneB UA fA bA := ⟨rfl, rfl, rfl, by decide, by decide, by decide, by decide⟩
def rA : Nat → List Wd
  | 0 => [[122]]
  | 1 => [[120], [122]]
  | _ => [[121]]
theorem rA_rise : ∀ k, k ≤ 2 → Rise (rA k)
  | 0, _ => ⟨by decide, by decide⟩
  | 1, _ => ⟨by decide, by decide⟩
  | 2, _ => ⟨by decide, by decide⟩
  | _ + 3, h => by omega
theorem rA_mem : ∀ k, k ≤ 2 → ∀ x, backL (bA.code.drop k) (fun y => decide (y ∈ usesT bA.fin)) x = true ↔ x ∈ rA k
  | 0, _, x => by
    simp [backL, backI, usesT, usesI, namesA, namesF, namesO, orS, delS, rA]
    constructor
    · rintro ⟨h1 | h1, h2⟩
      · exact absurd h1 h2
      · exact h1
    · rintro rfl
      exact ⟨.inr rfl, by decide⟩
  | 1, _, x => by
    simp [backL, backI, usesT, usesI, namesA, namesF, namesO, orS, delS, rA]
  | 2, _, x => by
    simp [backL, backI, usesT, usesI, namesA, namesF, namesO, orS, delS, rA]
  | _ + 3, h, _ => by omega
theorem at_c {w : World} {g0 g g1 g2 : Nat} (h : AW w g0 g g1 g2) (k : Nat) (hk : k ≤ 2) :
    Calls Tryd.prog 34 #[.agg (fC g0).toArray, .int .i64 0, .int .i64 (k : Int)] w fun e w' => ∃ v, e = .returned v ∧ Texts w.heap.size w'.heap.size w' v (rA k) ∧ Below w.heap.size w w' := by
  refine (at1_any uokA 0 _ w (fC g0) fA bA h.func (Nat.le_refl _) oneA k hk).mono ?_
  rintro e w' ⟨v, r, rfl, hr, hm, ho, -, hb⟩
  obtain rfl : r = rA k := rise_eq hr (rA_rise k hk) fun x => (hm x).trans (rA_mem k hk x)
  have hl : ∀ k, k ≤ 2 → (rA k).length ≤ 4611686018427387903 := by decide
  exact ⟨v, rfl, texts_own ho rfl (hl k hk), hb⟩
theorem at_o {w : World} {g0 g g1 g2 : Nat} (h : AW w g0 g g1 g2) : Calls Tryd.prog 34 #[.agg (fC g0).toArray, .int .i64 0, .int .i64 3] w fun e w' => e = .returned (.slice none 0 0) ∧ Below w.heap.size w w' :=
  at1_out (U := UA) 0 _ w (fC g0) fA bA h.func (Nat.le_refl _) oneA 3 (by decide) (by decide)
theorem own_ne {w : World} {q p : Nat} {t t' : TypeId} {cs ds : List Value} (h : Mem.Own w q t cs) (k : Mem.Own w p t' ds) (ht : t ≠ t') : q ≠ p := by
  rintro rfl
  unfold Mem.Own at h k
  rw [h] at k
  simp at k
  exact ht k.2
def W9 (w : World) (p : Nat) (v0 v1 v2 v3 v4 v5 v6 v7 v8 : Value) : World := ((((((((w.setCell ⟨p, 0, none⟩ v0).setCell ⟨p, 1, none⟩ v1).setCell ⟨p, 2, none⟩ v2).setCell ⟨p, 3, none⟩ v3).setCell ⟨p, 4, none⟩ v4).setCell ⟨p, 5, none⟩ v5).setCell ⟨p, 6, none⟩ v6).setCell ⟨p, 7, none⟩ v7).setCell ⟨p, 8, none⟩ v8
theorem keep1 {w : World} {q p i : Nat} {t : TypeId} {cs : List Value} {v : Value} (h : Mem.Own w q t cs) (hq : q ≠ p) : Mem.Own (w.setCell ⟨p, i, none⟩ v) q t cs := (Below.heap_setCell w ⟨p, i, none⟩ v q hq).trans h
theorem keep9 {w : World} {q p : Nat} {t : TypeId} {cs : List Value} {v0 v1 v2 v3 v4 v5 v6 v7 v8 : Value} (h : Mem.Own w q t cs) (hq : q ≠ p) : Mem.Own (W9 w p v0 v1 v2 v3 v4 v5 v6 v7 v8) q t cs := by
  unfold W9
  exact keep1 (keep1 (keep1 (keep1 (keep1 (keep1 (keep1 (keep1 (keep1 h hq) hq) hq) hq) hq) hq) hq) hq) hq
theorem own9 {w : World} {p : Nat} {t : TypeId} {v0 v1 v2 v3 v4 v5 v6 v7 v8 x0 x1 x2 x3 x4 x5 x6 x7 x8 : Value} (h : Mem.Own w p t [x0, x1, x2, x3, x4, x5, x6, x7, x8]) : Mem.Own (W9 w p v0 v1 v2 v3 v4 v5 v6 v7 v8) p t [v0, v1, v2, v3, v4, v5, v6, v7, v8] := by
  unfold W9
  have h1 : Mem.Own _ p t [v0, x1, x2, x3, x4, x5, x6, x7, x8] := h.store 0 v0
  have h2 : Mem.Own _ p t [v0, v1, x2, x3, x4, x5, x6, x7, x8] := h1.store 1 v1
  have h3 : Mem.Own _ p t [v0, v1, v2, x3, x4, x5, x6, x7, x8] := h2.store 2 v2
  have h4 : Mem.Own _ p t [v0, v1, v2, v3, x4, x5, x6, x7, x8] := h3.store 3 v3
  have h5 : Mem.Own _ p t [v0, v1, v2, v3, v4, x5, x6, x7, x8] := h4.store 4 v4
  have h6 : Mem.Own _ p t [v0, v1, v2, v3, v4, v5, x6, x7, x8] := h5.store 5 v5
  have h7 : Mem.Own _ p t [v0, v1, v2, v3, v4, v5, v6, x7, x8] := h6.store 6 v6
  have h8 : Mem.Own _ p t [v0, v1, v2, v3, v4, v5, v6, v7, x8] := h7.store 7 v7
  have h9 : Mem.Own _ p t [v0, v1, v2, v3, v4, v5, v6, v7, v8] := h8.store 8 v8
  exact h9
theorem nine {l : List Value} (h : l.length = 9) : ∃ x0 x1 x2 x3 x4 x5 x6 x7 x8, l = [x0, x1, x2, x3, x4, x5, x6, x7, x8] := by
  obtain ⟨x0, l, rfl⟩ : ∃ x l2, l = x :: l2 := by cases l <;> simp at h ⊢
  obtain ⟨x1, l, rfl⟩ : ∃ x l2, l = x :: l2 := by cases l <;> simp at h ⊢
  obtain ⟨x2, l, rfl⟩ : ∃ x l2, l = x :: l2 := by cases l <;> simp at h ⊢
  obtain ⟨x3, l, rfl⟩ : ∃ x l2, l = x :: l2 := by cases l <;> simp at h ⊢
  obtain ⟨x4, l, rfl⟩ : ∃ x l2, l = x :: l2 := by cases l <;> simp at h ⊢
  obtain ⟨x5, l, rfl⟩ : ∃ x l2, l = x :: l2 := by cases l <;> simp at h ⊢
  obtain ⟨x6, l, rfl⟩ : ∃ x l2, l = x :: l2 := by cases l <;> simp at h ⊢
  obtain ⟨x7, l, rfl⟩ : ∃ x l2, l = x :: l2 := by cases l <;> simp at h ⊢
  obtain ⟨x8, l, rfl⟩ : ∃ x l2, l = x :: l2 := by cases l <;> simp at h ⊢
  obtain rfl : l = [] := by simpa using h
  exact ⟨x0, x1, x2, x3, x4, x5, x6, x7, x8, rfl⟩
theorem below9 {w : World} {B p : Nat} {v0 v1 v2 v3 v4 v5 v6 v7 v8 : Value} (h : B ≤ p) : Below B w (W9 w p v0 v1 v2 v3 v4 v5 v6 v7 v8) := by
  unfold W9
  exact (((((((((Below.refl B w).setCell h v0).setCell h v1).setCell h v2).setCell h v3).setCell h v4).setCell h v5).setCell h v6).setCell h v7).setCell h v8
section
variable {b0 p : Nat} {w w' : World} {xs vs : List Value} (o : Mem.Own w p 60 xs) (o' : Mem.Own w' p 60 vs) (hv : vs.length = 9) (kp : ∀ (q : Nat) (t : TypeId) (cs : List Value), Mem.Own w q t cs → q ≠ p → Mem.Own w' q t cs)
include o kp
theorem A1.set {g : Nat} (h : A1 b0 w g) : A1 b0 w' g := ⟨kp _ _ _ h.1 (own_ne h.1 o (by decide)), h.2⟩
theorem A2.set {g : Nat} (h : A2 b0 w g) : A2 b0 w' g := ⟨kp _ _ _ h.1 (own_ne h.1 o (by decide)), h.2⟩
theorem A3.set {g : Nat} (h : A3 b0 w g) : A3 b0 w' g := by
  obtain ⟨g1, g2, h1, h2, h3, h4⟩ := h
  exact ⟨g1, g2, kp _ _ _ h1 (own_ne h1 o (by decide)), h2.set o kp, h3.set o kp, h4⟩
include o' hv
set_option maxHeartbeats 2000000 in
theorem fact2_set (j : Nat) (hj : j < 12) (v : Value) (h : fact2 b0 j v w) : fact2 b0 j v w' := by
  have e : j = 0 ∨ j = 1 ∨ j = 2 ∨ j = 3 ∨ j = 4 ∨ j = 5 ∨ j = 6 ∨ j = 7 ∨ j = 8 ∨ j = 9 ∨ j = 10 ∨ j = 11 := by omega
  rcases e with rfl | rfl | rfl | rfl | rfl | rfl | rfl | rfl | rfl | rfl | rfl | rfl
  · exact h
  · obtain ⟨g, h, k⟩ := h
    exact ⟨g, h, k.set o kp⟩
  · obtain ⟨g, h, k⟩ := h
    exact ⟨g, h, k.set o kp⟩
  · exact h
  · exact h
  · obtain ⟨g, h, k⟩ := h
    exact ⟨g, h, k.set o kp⟩
  · obtain ⟨g, h, k⟩ := h
    exact ⟨g, h, k.set o kp⟩
  · obtain ⟨g, h, k⟩ := h
    exact ⟨g, h, k.set o kp⟩
  · exact h
  · exact h
  · obtain ⟨g, h, k⟩ := h
    exact ⟨g, h, k.set o kp⟩
  · obtain ⟨q, ds, h, k, l, m⟩ := h
    by_cases e : q = p
    · subst e
      exact ⟨q, _, h, o', hv, m⟩
    · exact ⟨q, ds, h, kp _ _ _ k e, l, m⟩
end
theorem fin2 {w w2 w' : World} {F : Nat → Value} {K : Go.Act → World → Prop} {j : Nat} {v : Value} {fr : Go.Act} (hj : j < 12) (hB : Bs2 w F w2)
    (hK : ∀ v w' fr, fr = mkA (Facts.upd F (dst2 j) v) → Bs2 w (Facts.upd F (dst2 j) v) w' → (∀ e, e < 13 → e ≠ j → j ∉ deps2 e → ∀ u, fact2 w.heap.size e u w2 → fact2 w.heap.size e u w') → fact2 w.heap.size j v w' → (∀ e, e < 13 → e ≠ j → j ∉ deps2 e → Facts.upd F (dst2 j) v (dst2 e) = F (dst2 e)) → K fr w')
    (hb : Below w2.heap.size w2 w') (hfr : fr = mkA (Facts.upd F (dst2 j) v)) (hf : fact2 w.heap.size j v w') : K fr w' := by
  obtain ⟨b0, b1, b2, b3⟩ := hB
  have hdj : ∀ j, j < 12 → dst2 j ≠ 0 ∧ dst2 j ≠ 1 := by decide
  have hde : ∀ j, j < 12 → ∀ e, e < 13 → e ≠ j → j ∉ deps2 e → dst2 e ≠ dst2 j := by decide
  refine hK v w' fr hfr ⟨?_, ?_, b2.below hb b2.lt, b3.trans (hb.mono b3.size)⟩ (fun e he hej hd u => fact2_mono hb e u) hf fun e he hej hd => ?_
  · unfold Facts.upd
    rw [if_neg (Ne.symm (hdj j hj).1), b0]
  · unfold Facts.upd
    rw [if_neg (Ne.symm (hdj j hj).2), b1]
  · unfold Facts.upd
    rw [if_neg (hde j hj e he hej hd)]
set_option maxRecDepth 100000 in
set_option maxHeartbeats 16000000 in
theorem awake12_any (w : World) : Calls Tryd.prog 10 #[] w fun e w' => e = .returned (.bool true) ∧ Below w.heap.size w w' := by
  have HO := Lib.hid (Mem.Own.made w 44 [i64 2, str [], i64 1])
  have HB := Lib.hid ((Below.refl _ w).alloc (Nat.le_refl _) (.cells #[i64 2, str [], i64 1] 44))
  go_enter Tryd.func10, Tryd.ntmps10
  go_wp2_with fail
  obtain ⟨F0, hF0⟩ : ∃ F0 : Nat → Value, F0 = fun t => if t = 0 then .bool false else if t = 1 then .pointer (some ⟨w.heap.size, 0, none⟩) else if t = 4 then .agg #[i64 2, str [], i64 1] else undef := ⟨_, rfl⟩
  refine wp_region_any (by kernel_rfl) ?_
  generalize hfr : Go.Act.mk _ _ = fr
  obtain rfl : fr = mkA F0 := by rw [← hfr, hF0]; rfl
  refine Facts.wpAny_facts mkA 13 ?hn dst2 (fact2 w.heap.size) (Bs2 w) deps2 ?hac ?hd ?hdn ?hops ?hend 13 _ F0 _ ?hs ?hl ?hcl ?hb ?hf
  case hn => rfl
  case hs => simp
  case hl => decide
  case hdn => decide
  case hac => exact Facts.acyc_spec (by kernel_rfl)
  case hd => exact Facts.deps_spec (by kernel_rfl)
  case hcl =>
    intro e he h
    have h2 : (Array.replicate 13 false).getD e true = true := h
    rw [Array.getD_eq_getD_getElem?, Array.getElem?_replicate, if_pos he] at h2
    cases h2
  case hf =>
    intro e he h
    have h2 : (Array.replicate 13 false).getD e true = true := h
    rw [Array.getD_eq_getD_getElem?, Array.getElem?_replicate, if_pos he] at h2
    cases h2
  case hb =>
    rw [hF0]
    exact ⟨rfl, rfl, HO.out, HB.out.drew⟩
  case hops =>
    intro j hj F w2 K hB hdep hK
    have hB0 := hB
    obtain ⟨b0, b1, b2, b3⟩ := hB
    have hK2 : ∀ v w' fr, fr = mkA (Facts.upd F (dst2 j) v) → Bs2 w (Facts.upd F (dst2 j) v) w' → (∀ e, e < 13 → e ≠ j → j ∉ deps2 e → ∀ u, fact2 w.heap.size e u w2 → fact2 w.heap.size e u w') → fact2 w.heap.size j v w' → (∀ e, e < 13 → e ≠ j → j ∉ deps2 e → Facts.upd F (dst2 j) v (dst2 e) = F (dst2 e)) → K fr w' := by
      rintro v w' fr rfl
      exact hK v w'
    clear hK
    match j, hj with
    | 0, hj =>
      refine Facts.op_wp rfl rfl ?_
      have n0 := b2.cell 0
      have n1 := b2.cell 1
      have n2 := b2.cell 2
      simp only [List.getElem?_cons_zero, List.getElem?_cons_succ] at n0 n1 n2
      unfold mkA
      go_simp
      refine fin2 (j := 0) (v := .agg #[i64 2, str [], i64 1]) (by omega) hB0 hK2 (Below.refl _ _) (by simp [mkA, Facts.upd, dst2, b0, b1]) rfl
    | 1, hj =>
      have d0 : F 5 = .agg #[i64 2, str [], i64 1] := hdep 0 (by decide)
      refine Facts.op_wp rfl rfl ?_
      unfold mkA
      go_simp
      refine fin2 (j := 1) (v := .slice (some ⟨w2.heap.size, 0, none⟩) 1 1) (by omega) hB0 hK2 ?_ (by simp [mkA, Facts.upd, dst2, b0, b1, d0]) ⟨w2.heap.size, rfl, Mem.Own.made w2 _ _, b3.size⟩
      exact (Below.refl _ w2).alloc (Nat.le_refl _) _
    | 2, hj =>
      obtain ⟨g, e1, k1⟩ : ∃ g, F 6 = .slice (some ⟨g, 0, none⟩) 1 1 ∧ A1 w.heap.size w2 g := hdep 1 (by decide)
      refine Facts.op_wp rfl rfl ?_
      unfold mkA
      go_simp
      refine fin2 (j := 2) (v := .agg (i0C g).toArray) (by omega) hB0 hK2 (Below.refl _ _) (by simp [mkA, Facts.upd, dst2, b0, b1, e1]) ⟨g, rfl, k1⟩
    | 3, hj =>
      refine Facts.op_wp rfl rfl ?_
      unfold mkA
      go_simp
      refine (v_any w2 [120]).mono ?_
      rintro e w3 ⟨rfl, hb3⟩
      refine fin2 (j := 3) (v := .agg #[i64 1, str [120], i64 0]) (by omega) hB0 hK2 hb3 (by simp [mkA, Facts.upd, dst2, b0, b1]) rfl
    | 4, hj =>
      refine Facts.op_wp rfl rfl ?_
      unfold mkA
      go_simp
      refine (v_any w2 [122]).mono ?_
      rintro e w3 ⟨rfl, hb3⟩
      refine fin2 (j := 4) (v := .agg #[i64 1, str [122], i64 0]) (by omega) hB0 hK2 hb3 (by simp [mkA, Facts.upd, dst2, b0, b1]) rfl
    | 5, hj =>
      have d3 : F 8 = .agg #[i64 1, str [120], i64 0] := hdep 3 (by decide)
      have d4 : F 9 = .agg #[i64 1, str [122], i64 0] := hdep 4 (by decide)
      refine Facts.op_wp rfl rfl ?_
      unfold mkA
      go_simp
      refine fin2 (j := 5) (v := .slice (some ⟨w2.heap.size, 0, none⟩) 2 2) (by omega) hB0 hK2 ?_ (by simp [mkA, Facts.upd, dst2, b0, b1, d3, d4]) ⟨w2.heap.size, rfl, Mem.Own.made w2 _ _, b3.size⟩
      exact (Below.refl _ w2).alloc (Nat.le_refl _) _
    | 6, hj =>
      obtain ⟨g, e1, k1⟩ : ∃ g, F 10 = .slice (some ⟨g, 0, none⟩) 2 2 ∧ A2 w.heap.size w2 g := hdep 5 (by decide)
      refine Facts.op_wp rfl rfl ?_
      unfold mkA
      go_simp
      refine fin2 (j := 6) (v := .agg (i1C g).toArray) (by omega) hB0 hK2 (Below.refl _ _) (by simp [mkA, Facts.upd, dst2, b0, b1, e1]) ⟨g, rfl, k1⟩
    | 7, hj =>
      obtain ⟨g1, e1, k1⟩ : ∃ g, F 7 = .agg (i0C g).toArray ∧ A1 w.heap.size w2 g := hdep 2 (by decide)
      obtain ⟨g2, e2, k2⟩ : ∃ g, F 11 = .agg (i1C g).toArray ∧ A2 w.heap.size w2 g := hdep 6 (by decide)
      refine Facts.op_wp rfl rfl ?_
      unfold mkA
      go_simp
      have hb : Below w2.heap.size w2 (w2.alloc (.cells (i0C g1 ++ i1C g2).toArray 72)) := (Below.refl _ w2).alloc (Nat.le_refl _) _
      refine fin2 (j := 7) (v := .slice (some ⟨w2.heap.size, 0, none⟩) 2 2) (by omega) hB0 hK2 hb (by simp [mkA, Facts.upd, dst2, b0, b1, e1, e2]) ⟨w2.heap.size, rfl, g1, g2, Mem.Own.made w2 _ _, k1.below hb, k2.below hb, b3.size⟩
    | 8, hj =>
      refine Facts.op_wp rfl rfl ?_
      unfold mkA
      go_simp
      refine (v_any w2 [121]).mono ?_
      rintro e w3 ⟨rfl, hb3⟩
      refine fin2 (j := 8) (v := .agg #[i64 1, str [121], i64 0]) (by omega) hB0 hK2 hb3 (by simp [mkA, Facts.upd, dst2, b0, b1]) rfl
    | 9, hj =>
      have d8 : F 13 = .agg #[i64 1, str [121], i64 0] := hdep 8 (by decide)
      refine Facts.op_wp rfl rfl ?_
      unfold mkA
      go_simp
      refine fin2 (j := 9) (v := .agg #[i64 3, i64 1, str [121], i64 0, nilS, i64 0]) (by omega) hB0 hK2 (Below.refl _ _) (by simp [mkA, Facts.upd, dst2, b0, b1, d8]) rfl
    | 10, hj =>
      obtain ⟨g, e1, k1⟩ : ∃ g, F 12 = .slice (some ⟨g, 0, none⟩) 2 2 ∧ A3 w.heap.size w2 g := hdep 7 (by decide)
      have d9 : F 14 = .agg #[i64 3, i64 1, str [121], i64 0, nilS, i64 0] := hdep 9 (by decide)
      refine Facts.op_wp rfl rfl ?_
      unfold mkA
      go_simp
      refine fin2 (j := 10) (v := .agg (bC g).toArray) (by omega) hB0 hK2 (Below.refl _ _) (by simp [mkA, Facts.upd, dst2, b0, b1, e1, d9]) ⟨g, rfl, k1⟩
    | 11, hj =>
      refine Facts.op_wp rfl rfl ?_
      unfold mkA
      go_simp
      have hb : Below w2.heap.size w2 (w2.alloc (.cells [str [], nilS, nilS, i64 0, i64 0, str [], i64 0, nilS, i64 0].toArray 60)) := (Below.refl _ w2).alloc (Nat.le_refl _) _
      refine fin2 (j := 11) (v := .pointer (some ⟨w2.heap.size, 0, none⟩)) (by omega) hB0 hK2 hb (by simp [mkA, Facts.upd, dst2, b0, b1]) ⟨w2.heap.size, _, rfl, Mem.Own.made w2 _ _, rfl, b3.size⟩
    | 12, hj =>
      obtain ⟨g, e1, k1⟩ : ∃ g, F 15 = .agg (bC g).toArray ∧ A3 w.heap.size w2 g := hdep 10 (by decide)
      obtain ⟨p, cs, e2, k2, k3, k4⟩ : ∃ p cs, F 2 = .pointer (some ⟨p, 0, none⟩) ∧ Mem.Own w2 p 60 cs ∧ cs.length = 9 ∧ w.heap.size ≤ p := hdep 11 (by decide)
      obtain ⟨x0, x1, x2, x3, x4, x5, x6, x7, x8, rfl⟩ := nine k3
      have n0 := k2.cell 0
      have n1 := k2.cell 1
      have n2 := k2.cell 2
      have n3 := k2.cell 3
      have n4 := k2.cell 4
      have n5 := k2.cell 5
      have n6 := k2.cell 6
      have n7 := k2.cell 7
      have n8 := k2.cell 8
      have f0 := k2.thaw 0
      have f1 := k2.thaw 1
      have f2 := k2.thaw 2
      have f3 := k2.thaw 3
      have f4 := k2.thaw 4
      have f5 := k2.thaw 5
      have f6 := k2.thaw 6
      have f7 := k2.thaw 7
      have f8 := k2.thaw 8
      simp only [List.getElem?_cons_zero, List.getElem?_cons_succ] at n0 n1 n2 n3 n4 n5 n6 n7 n8
      refine Facts.op_wp rfl rfl ?_
      unfold mkA
      go_simp
      refine hK2 (F 2) (W9 w2 p (str [98]) nilS (.slice (some ⟨g, 0, none⟩) 2 2) (i64 3) (i64 1) (str [121]) (i64 0) nilS (i64 0)) _ (by simp [mkA, Facts.upd, dst2, b0, b1, e1, e2]) ⟨?_, ?_, keep9 b2 (own_ne b2 k2 (by decide)), b3.trans (below9 k4)⟩ (fun e he hej hd u hu => fact2_set k2 (own9 k2) rfl (fun _ _ _ h h2 => keep9 h h2) e (by omega) u hu) ⟨p, g, e2, own9 k2, k4, k1.set k2 fun _ _ _ h h2 => keep9 h h2⟩ fun e he hej hd => ?_
      · exact b0
      · exact b1
      · unfold Facts.upd
        split
        · rename_i h
          rw [h]
          rfl
        · rfl
    | _ + 13, hj => omega
  case hend =>
    clear hF0 hfr HB
    intro F w2 hB hall
    obtain ⟨b0, b1, b2, b3⟩ := hB
    obtain ⟨p, g, e2, k2, k3, g1, g2, k4, k5, k6, k7⟩ : ∃ p g, F 2 = .pointer (some ⟨p, 0, none⟩) ∧ Mem.Own w2 p 60 (bC g) ∧ w.heap.size ≤ p ∧ A3 w.heap.size w2 g := hall 12 (by omega)
    clear hall
    have n0 := k2.cell 0
    have n1 := k2.cell 1
    have n2 := k2.cell 2
    have n3 := k2.cell 3
    have n4 := k2.cell 4
    have n5 := k2.cell 5
    have n6 := k2.cell 6
    have n7 := k2.cell 7
    have n8 := k2.cell 8
    simp only [List.getElem?_cons_zero, List.getElem?_cons_succ] at n0 n1 n2 n3 n4 n5 n6 n7 n8
    have HW : Hid (AW ((w2.alloc (.cells (bC g).toArray 60)).alloc (.cells (fC w2.heap.size).toArray 37)) w2.heap.size g g1 g2) := Lib.hid ⟨(Mem.Own.made w2 _ _).alloc _, (k4.alloc _).alloc _, (k5.1.alloc _).alloc _, (k6.1.alloc _).alloc _⟩
    have HF : Hid (Mem.Own ((w2.alloc (.cells (bC g).toArray 60)).alloc (.cells (fC w2.heap.size).toArray 37)) (w2.heap.size + 1) 37 (fC w2.heap.size)) := Lib.hid (by have := Mem.Own.made (w2.alloc (.cells (bC g).toArray 60)) 37 (fC w2.heap.size); simpa using this)
    unfold mkA
    rw [b0, b1, e2]
    generalize F 3 = f3, F 4 = f4, F 5 = f5, F 6 = f6, F 7 = f7, F 8 = f8, F 9 = f9, F 10 = f10, F 11 = f11, F 12 = f12, F 13 = f13, F 14 = f14, F 15 = f15, F 16 = f16, F 17 = f17, F 18 = f18, F 19 = f19, F 20 = f20, F 21 = f21, F 22 = f22, F 23 = f23, F 24 = f24, F 25 = f25, F 26 = f26, F 27 = f27, F 28 = f28, F 29 = f29, F 30 = f30, F 31 = f31, F 32 = f32, F 33 = f33, F 34 = f34, F 35 = f35, F 36 = f36, F 37 = f37, F 38 = f38, F 39 = f39, F 40 = f40
    go_wp2_with fail
    refine (at_c HW.out 0 (by decide)).mono ?_
    rintro _ w4 ⟨v, rfl, ht, hb4⟩
    have HWa := Lib.hid (HW.out.below hb4)
    have HFa := Lib.hid (HF.out.below hb4 HF.out.lt)
    have HBa : Hid (Below w.heap.size w w4) := Lib.hid (((b3.alloc b3.size _).alloc (by have := b3.size; simp; omega) _).trans (hb4.mono (by have := b3.size; simp; omega)))
    clear HW HF 
    go_wp2_with fail
    refine (same12_any _ _ 0 (w4.heap.size + 1) _ _ _ (rA 0) [[122]] (Row.move ht (fun k _ hk => Below.heap_alloc w4 _ k hk) (Nat.le_refl _) (Nat.le_refl _) (fun _ _ h => h)) (row_one12 (Mem.Own.made w4 9 [str [122]]) (by omega) rfl rfl) (by simp) (by simp)).mono ?_
    rintro _ w5 ⟨b, rfl, hb, hb5⟩
    obtain rfl : b = true := hb.2 rfl
    replace hb5 := ((Below.refl _ w4).alloc (Nat.le_refl _) _).trans (hb5.mono (by simp))
    have HW0 := Lib.hid (HWa.out.below hb5)
    have HF0 := Lib.hid (HFa.out.below hb5 HFa.out.lt)
    have HB0 := Lib.hid (HBa.out.trans (hb5.mono HBa.out.size))
    clear HWa HFa HBa hb4 hb5 hb ht
    have q0 := HF0.out.cell 0
    have q1 := HF0.out.cell 1
    have q2 := HF0.out.cell 2
    have q3 := HF0.out.cell 3
    have q4 := HF0.out.cell 4
    simp only [List.getElem?_cons_zero, List.getElem?_cons_succ] at q0 q1 q2 q3 q4
    go_wp2_with fail
    refine (at_c HW0.out 1 (by decide)).mono ?_
    rintro _ w6 ⟨v, rfl, ht, hb4⟩
    have HWa := Lib.hid (HW0.out.below hb4)
    have HFa := Lib.hid (HF0.out.below hb4 HF0.out.lt)
    have HBa : Hid (Below w.heap.size w w6) := Lib.hid (HB0.out.trans (hb4.mono HB0.out.size))
    clear HW0 HF0 q0 q1 q2 q3 q4 HB0
    go_wp2_with fail
    refine (same12_any _ _ 0 (w6.heap.size + 1) _ _ _ (rA 1) [[120], [122]] (Row.move ht (fun k _ hk => Below.heap_alloc w6 _ k hk) (Nat.le_refl _) (Nat.le_refl _) (fun _ _ h => h)) (row_two12 (Mem.Own.made w6 9 ([str [120]] ++ [str [122]])) (by omega) rfl rfl rfl rfl) (by simp) (by simp)).mono ?_
    rintro _ w7 ⟨b, rfl, hb, hb5⟩
    obtain rfl : b = true := hb.2 rfl
    replace hb5 := ((Below.refl _ w6).alloc (Nat.le_refl _) _).trans (hb5.mono (by simp))
    have HW1 := Lib.hid (HWa.out.below hb5)
    have HF1 := Lib.hid (HFa.out.below hb5 HFa.out.lt)
    have HB1 := Lib.hid (HBa.out.trans (hb5.mono HBa.out.size))
    clear HWa HFa HBa hb4 hb5 hb ht
    have q0 := HF1.out.cell 0
    have q1 := HF1.out.cell 1
    have q2 := HF1.out.cell 2
    have q3 := HF1.out.cell 3
    have q4 := HF1.out.cell 4
    simp only [List.getElem?_cons_zero, List.getElem?_cons_succ] at q0 q1 q2 q3 q4
    go_wp2_with fail
    refine (at_c HW1.out 2 (by decide)).mono ?_
    rintro _ w8 ⟨v, rfl, ht, hb4⟩
    have HWa := Lib.hid (HW1.out.below hb4)
    have HFa := Lib.hid (HF1.out.below hb4 HF1.out.lt)
    have HBa : Hid (Below w.heap.size w w8) := Lib.hid (HB1.out.trans (hb4.mono HB1.out.size))
    clear HW1 HF1 q0 q1 q2 q3 q4 HB1
    go_wp2_with fail
    refine (same12_any _ _ 0 (w8.heap.size + 1) _ _ _ (rA 2) [[121]] (Row.move ht (fun k _ hk => Below.heap_alloc w8 _ k hk) (Nat.le_refl _) (Nat.le_refl _) (fun _ _ h => h)) (row_one12 (Mem.Own.made w8 9 [str [121]]) (by omega) rfl rfl) (by simp) (by simp)).mono ?_
    rintro _ w9 ⟨b, rfl, hb, hb5⟩
    obtain rfl : b = true := hb.2 rfl
    replace hb5 := ((Below.refl _ w8).alloc (Nat.le_refl _) _).trans (hb5.mono (by simp))
    have HW2 := Lib.hid (HWa.out.below hb5)
    have HF2 := Lib.hid (HFa.out.below hb5 HFa.out.lt)
    have HB2 := Lib.hid (HBa.out.trans (hb5.mono HBa.out.size))
    clear HWa HFa HBa hb4 hb5 hb ht
    have q0 := HF2.out.cell 0
    have q1 := HF2.out.cell 1
    have q2 := HF2.out.cell 2
    have q3 := HF2.out.cell 3
    have q4 := HF2.out.cell 4
    simp only [List.getElem?_cons_zero, List.getElem?_cons_succ] at q0 q1 q2 q3 q4
    go_wp2_with fail
    refine (at_o HW2.out).mono ?_
    rintro _ w10 ⟨rfl, hb4⟩
    go_wp2_with fail
    refine bodyPost_ret (results_tmp rfl _ _ _) rfl ⟨rfl, HB2.out.trans (hb4.mono HB2.out.size)⟩
end Go.Proofs.YtdgmdpphimenjaaDoor.L12
