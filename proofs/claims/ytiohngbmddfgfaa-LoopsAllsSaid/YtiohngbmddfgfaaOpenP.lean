/-
  An argument that is a program, opened whole: what it reads as, and that its numbers and texts are within their bounds.
-/
import Derived.Test.YtiohngbmddfgfaaProg
import Derived.Test.YtiohngbmddfgfaaPlainS
import Derived.Test.YtiohngbmddfgfaaShell
import Derived.Deep.Slices
import Derived.ProofKit
import Derived.OpenShut
import Derived.SizedLaws
import Derived.RowKit
import Derived.ChangeArms
import Derived.KernelRfl
namespace Go.Proofs.Ytiohngbmddfgfaa.OpenP
open Go.ChangeShapes Go.WideShapes Go.ChangeAt Go.RowKit Go.Deep Api

theorem list_of {α : Type} {p : Nat → α → Prop} (n : Nat) (h : ∀ i, i < n → ∃ x, p i x) : ∃ xs : List α, xs.length = n ∧ ∀ i x, xs[i]? = some x → p i x := by
  induction n with
  | zero => exact ⟨[], rfl, fun i x h => by simp at h⟩
  | succ n ih =>
    obtain ⟨xs, hl, hx⟩ := ih fun i hi => h i (by omega)
    obtain ⟨y, hy⟩ := h n (by omega)
    refine ⟨xs ++ [y], by simp [hl], fun i x hi => ?_⟩
    rw [List.getElem?_append] at hi
    split at hi
    · exact hx i x hi
    · rename_i h1
      have h2 := (List.getElem?_eq_some_iff.1 hi).1
      simp only [List.length_singleton] at h2
      have h3 : i = n := by omega
      subst h3
      rw [hl, Nat.sub_self] at hi
      simp at hi
      subst hi
      exact hy
theorem addr_of {w : World} {a : Addr} {v : Value} (h : w.cell? (a.add 0) = some v) : ∃ b off, a = ⟨b, off, none⟩ ∧ b < w.heap.size := by
  obtain ⟨b, off, spot⟩ := a
  have e : (⟨b, off, spot⟩ : Addr).add 0 = ⟨b, off, spot⟩ := rfl
  rw [e] at h
  have hb := World.block_lt_of_cell? w _ h
  cases spot with
  | none => exact ⟨b, off, rfl, hb⟩
  | some x =>
    unfold World.cell? at h
    split at h
    · simp at h
    · cases h
variable {H : Type} {enc : TypeId × Value → H} {w : World}
abbrev Tr (enc : TypeId × Value → H) (w : World) (n : Nat) (t : TypeId) (cs : List Value) (x : DataW H × List MemPlace) : Prop := DataW.trod enc Try.prog w 0 (fun _ => true) true n t cs = some x
/-- no size in it is more than the reach. -/
def Wt (t : TypeId) (d : DataW H) : Prop := ∀ m ∈ d.weights Try.prog t, m ≤ reachBytes
theorem all_mem {e : TypeId} {l : List (DataW H)} {d : DataW H} (hd : d ∈ l) : ∀ m ∈ d.weights Try.prog e, m ∈ DataW.weightsAll Try.prog e l := by
  induction l with
  | nil => cases hd
  | cons x l ih =>
    intro m hm
    simp only [DataW.weightsAll, List.mem_append]
    rcases List.mem_cons.1 hd with rfl | hd
    · exact .inl hm
    · exact .inr (ih hd m hm)
theorem open_row {α : Type} {t e : TypeId} {size bts : Nat} {Q : List Value → α → Prop} {G : α → Prop} (ht : Try.prog.underlying t = some (.slice e)) (hc : Try.prog.cellsOf e = size) (hs : 0 < size) (hbt : Try.prog.bytesOf e = bts) (hb2 : 1 ≤ bts) {fuel : Nat} {v : Value} {x : DataW H × List MemPlace}
    (h : Tr enc w fuel t [v] x) (hw : Wt t x.1) (each : ∀ (n : Nat) (cs : List Value) (y : DataW H × List MemPlace), cs.length = size → Tr enc w n e cs y → Wt e y.1 → ∃ a : α, Q cs a ∧ G a) :
    ∃ xs : List α, Row 0 w.heap.size w size Q v xs ∧ ∀ a ∈ xs, G a := by
  rcases open_slice ht h with ⟨hcs, _⟩ | ⟨a, len, cap, m, n, D, Pl, hcs, _, hl, hm, hmm, hx, hall⟩
  · simp only [List.cons.injEq, and_true] at hcs
    subst hcs
    exact ⟨[], ⟨none, 0, 0, 0, 0, rfl, rfl, by omega, by omega, fun i x h => by simp at h⟩, by simp⟩
  · simp only [List.cons.injEq, and_true] at hcs
    subst hcs
    simp only [if_true] at hmm
    subst hmm
    subst hx
    rw [hc] at hall
    have hsz : len * bts ≤ reachBytes := by
      have h1 := hw ((len + (m - len)) * bts) (by simp [DataW.weights, ht, hbt])
      have : len ≤ len + (m - len) := by omega
      exact Nat.le_trans (Nat.mul_le_mul_right _ this) h1
    have hlen : len ≤ 4611686018427387903 := by
      have h2 : len * 1 ≤ len * bts := Nat.mul_le_mul_left _ hb2
      simp only [reachBytes] at hsz
      omega
    have hone : ∀ i, i < len → ∃ p : α × List Value, p.2.length = size ∧ (∀ j u, p.2[j]? = some u → w.cell? (a.add (i * size + j)) = some u) ∧ Q p.2 p.1 ∧ G p.1 := by
      intro i hi
      obtain ⟨cs', h1, h2⟩ := hall i (by omega)
      obtain ⟨_, hcl, hcell⟩ := World.cells?_some h1
      obtain ⟨y, hy, hg⟩ := each n cs' _ hcl h2 (fun q hq => hw q (by
        simp only [DataW.weights, ht]
        refine List.mem_cons_of_mem _ (List.mem_append_left _ (all_mem (d := D i) (List.mem_map.2 ⟨i, List.mem_range.2 hi, rfl⟩) q hq))))
      refine ⟨(y, cs'), hcl, fun j u hj => ?_, hy, hg⟩
      have hj2 : j < cs'.length := (List.getElem?_eq_some_iff.1 hj).1
      have := hcell j (by omega)
      rw [add_add] at this
      rw [this]
      exact hj
    obtain ⟨ps, hpl, hps⟩ := list_of len hone
    refine ⟨ps.map Prod.fst, ?_, ?_⟩
    · by_cases h0 : len = 0
      · subst h0
        have : ps = [] := List.eq_nil_of_length_eq_zero hpl
        subst this
        exact ⟨some a, 0, m, 0, 0, rfl, rfl, by omega, by omega, fun i x h => by simp at h⟩
      · obtain ⟨p0, hp0⟩ : ∃ p, ps[0]? = some p := ⟨_, List.getElem?_eq_getElem (by omega)⟩
        obtain ⟨q1, q2, _⟩ := hps 0 p0 hp0
        obtain ⟨u, hu⟩ : ∃ u, p0.2[0]? = some u := ⟨_, List.getElem?_eq_getElem (by omega)⟩
        obtain ⟨b, off, rfl, hb⟩ := addr_of (by have := q2 0 u hu; rwa [Nat.zero_mul] at this)
        refine ⟨_, len, m, b, off, rfl, by rw [List.length_map, hpl], ⟨hlen, hl⟩, fun _ => ⟨rfl, Nat.zero_le _, hb⟩, fun i x hx => ?_⟩
        rw [List.getElem?_map] at hx
        obtain ⟨p, hp, rfl⟩ := Option.map_eq_some_iff.1 hx
        obtain ⟨r1, r2, r3, _⟩ := hps i p hp
        refine ⟨p.2, r1, fun j u hj => ?_, r3⟩
        have := r2 j u hj
        rw [add_plain] at this
        rw [Nat.add_assoc]
        exact this
    · intro x hx
      obtain ⟨p, hp, rfl⟩ := List.mem_map.1 hx
      obtain ⟨i, hi, rfl⟩ := List.mem_iff_getElem.1 hp
      exact (hps i _ (List.getElem?_eq_getElem hi)).2.2.2
theorem open_fields {e : TypeId} {fs : Array Field} {n : Nat} {cs : List Value} {y : DataW H × List MemPlace} (he : Try.prog.underlying e = some (.struct fs)) (h : Tr enc w n e cs y) (hw : Wt e y.1) :
    ∃ n2, ∀ (i : Nat) (f : Field), fs[i]? = some f → ∃ z, Tr enc w n2 f.type ((cs.drop f.offset).take (Try.prog.cellsOf f.type)) z ∧ Wt f.type z.1 := by
  obtain ⟨xs, k, hk, hxy, _, hxl, hf⟩ := DataW.trod_struct he h
  refine ⟨k, fun i f hfi => ?_⟩
  have hi : i < xs.length := by rw [hxl]; exact (Array.getElem?_eq_some_iff.1 hfi).1
  refine ⟨xs[i], (hf i f hfi).trans (List.getElem?_eq_getElem hi), fun q hq => hw q ?_⟩
  rw [hxy]
  simp only [DataW.weights, he]
  refine DataW.weights_mem_each (j := i) (t := f.type) (d := xs[i].1) ?_ ?_ q hq
  · rw [List.getElem?_map, Array.getElem?_toList, hfi]; rfl
  · rw [List.getElem?_map, List.getElem?_eq_getElem hi]; rfl
theorem take_fix {n k off : Nat} {t : TypeId} {cs : List Value} {z : DataW H × List MemPlace} (h : Tr enc w n t ((cs.drop off).take (Try.prog.cellsOf t)) z) (hc : Try.prog.cellsOf t = k) : Tr enc w n t ((cs.drop off).take k) z := by
  rw [hc] at h; exact h
theorem c_int : Try.prog.cellsOf 3 = 1 := by kernel_rfl
theorem c_int64 : Try.prog.cellsOf 2 = 1 := by kernel_rfl
theorem c_str : Try.prog.cellsOf 9 = 1 := by kernel_rfl
theorem c_bool : Try.prog.cellsOf 4 = 1 := by kernel_rfl
/-! ### texts and numbers within bounds -/
def strG (x : Wd) : Prop := x.length ≤ 140737488351232
def argG (a : Arg) : Prop := (NumM.In a.kind ∧ NumM.In a.n) ∧ strG a.s
def varG (v : Var) : Prop := strG v.name ∧ strG v.type
def extG (e : Extern) : Prop := strG e.name ∧ NumM.In e.n
def bindG (b : Bind) : Prop := strG b.name ∧ argG b.a
def classG (c : Class) : Prop := strG c.name ∧ ∀ v ∈ c.fields, varG v
def frameG (f : Api.Frame) : Prop := (strG f.func ∧ strG f.block) ∧ NumM.In f.pos ∧ ∀ b ∈ f.vars, bindG b
def virtG (v : Virt) : Prop := strG v.cls ∧ ∀ a ∈ v.vals, argG a
def instrG (i : Instr) : Prop := (NumM.In i.op ∧ strG i.dst ∧ strG i.name) ∧ (∀ a ∈ i.args, argG a) ∧ (∀ f ∈ i.frames, frameG f) ∧ ∀ o ∈ i.objs, virtG o
def phiG (p : Phi) : Prop := strG p.dst ∧ ∀ b ∈ p.ins, bindG b
def termG (t : Api.Term) : Prop := NumM.In t.kind ∧ argG t.a ∧ (∀ x ∈ t.dest, strG x) ∧ NumM.In t.n
def blockG (b : Api.Block) : Prop := strG b.name ∧ (∀ p ∈ b.phis, phiG p) ∧ (∀ i ∈ b.code, instrG i) ∧ termG b.fin
def funcG (f : Api.Func) : Prop := (strG f.name ∧ strG f.result) ∧ (∀ v ∈ f.params, varG v) ∧ (∀ v ∈ f.vars, varG v) ∧ ∀ b ∈ f.blocks, blockG b
def progG (p : Prog) : Prop := (∀ c ∈ p.classes, classG c) ∧ (∀ v ∈ p.globals, varG v) ∧ (∀ e ∈ p.externs, extG e) ∧ ∀ f ∈ p.funcs, funcG f

theorem t_str {n : Nat} {c : Value} {z : DataW H × List MemPlace} (h : Tr enc w n 9 [c] z) (hw : Wt 9 z.1) : ∃ x : Wd, c = str x ∧ strG x := by
  obtain ⟨s, hs, hz, _⟩ := DataW.trod_string Try.underlying9 h
  simp only [List.cons.injEq, and_true] at hs
  refine ⟨s.data.toList, by rw [hs], ?_⟩
  have := hw s.data.toList.length (by rw [hz]; simp [DataW.weights])
  simp only [reachBytes] at this
  exact this
theorem t_int {n : Nat} {c : Value} {z : DataW H × List MemPlace} (h : Tr enc w n 3 [c] z) : ∃ k : Int, c = i64 k ∧ NumM.In k := by
  obtain ⟨k, hs, _, hwf⟩ := DataW.trod_int Try.underlying3 h
  simp only [List.cons.injEq, and_true] at hs
  exact ⟨k, hs, NumM.in_of_wf hwf⟩
theorem t_int64 {n : Nat} {c : Value} {z : DataW H × List MemPlace} (h : Tr enc w n 2 [c] z) : ∃ k : Int, c = i64 k ∧ NumM.In k := by
  obtain ⟨k, hs, _, hwf⟩ := DataW.trod_int Try.underlying2 h
  simp only [List.cons.injEq, and_true] at hs
  exact ⟨k, hs, NumM.in_of_wf hwf⟩
theorem two {cs : List Value} (h : cs.length = 2) : ∃ a b, cs = [a, b] := by match cs, h with | [a, b], _ => exact ⟨a, b, rfl⟩
theorem three {cs : List Value} (h : cs.length = 3) : ∃ a b c, cs = [a, b, c] := by match cs, h with | [a, b, c], _ => exact ⟨a, b, c, rfl⟩
theorem four {cs : List Value} (h : cs.length = 4) : ∃ a b c d, cs = [a, b, c, d] := by match cs, h with | [a, b, c, d], _ => exact ⟨a, b, c, d, rfl⟩
theorem five {cs : List Value} (h : cs.length = 5) : ∃ a b c d e, cs = [a, b, c, d, e] := by match cs, h with | [a, b, c, d, e], _ => exact ⟨a, b, c, d, e, rfl⟩
theorem six {cs : List Value} (h : cs.length = 6) : ∃ a b c d e f, cs = [a, b, c, d, e, f] := by match cs, h with | [a, b, c, d, e, f], _ => exact ⟨a, b, c, d, e, f, rfl⟩
theorem nine {cs : List Value} (h : cs.length = 9) : ∃ a b c d e f g i j, cs = [a, b, c, d, e, f, g, i, j] := by match cs, h with | [a, b, c, d, e, f, g, i, j], _ => exact ⟨a, b, c, d, e, f, g, i, j, rfl⟩

variable {n : Nat} {cs : List Value} {y : DataW H × List MemPlace}
variable {v : Value}
end Go.Proofs.Ytiohngbmddfgfaa.OpenP
