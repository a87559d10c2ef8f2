/-
  An argument that is a program, opened whole: what it reads as, and that its numbers and texts are within their bounds.
-/
import Derived.Test.YtikfncgdjnljiaaDoorProg
import Derived.Test.YtikfncgdjnljiaaDoorPlainS
import Derived.Test.YtikfncgdjnljiaaDoorShell
import Derived.Deep.Slices
import Derived.ProofKit
import Derived.OpenShut
import Derived.SizedLaws
import Derived.RowKit
import Derived.ChangeArms
import Derived.KernelRfl
namespace Go.Proofs.YtikfncgdjnljiaaDoor.OpenP
open Go.ChangeShapes Go.WideShapes Go.ChangeAt Go.RowKit Go.Deep Api

theorem list_of {α : Type} {p : Nat → α → Prop} (n : Nat) (h : ∀ i, i < n → ∃ x, p i x) : ∃ xs : List α, xs.length = n ∧ ∀ i x, xs[i]? = some x → p i x := by
  induction n with
  | zero => exact ⟨[], rfl, fun i x h => by simp at h⟩
  | succ n ih =>
    obtain ⟨xs, hl, hx⟩ := ih fun i hi => h i (by omega)
    obtain ⟨y, hy⟩ := h n (by omega)
    refine ⟨xs ++ [y], by simp [hl], fun i x hi => ?_⟩
    rw [List.getElem?_append] at hi
    split at hi
    · exact hx i x hi
    · rename_i h1
      have h2 := (List.getElem?_eq_some_iff.1 hi).1
      simp only [List.length_singleton] at h2
      have h3 : i = n := by omega
      subst h3
      rw [hl, Nat.sub_self] at hi
      simp at hi
      subst hi
      exact hy
theorem addr_of {w : World} {a : Addr} {v : Value} (h : w.cell? (a.add 0) = some v) : ∃ b off, a = ⟨b, off, none⟩ ∧ b < w.heap.size := by
  obtain ⟨b, off, spot⟩ := a
  have e : (⟨b, off, spot⟩ : Addr).add 0 = ⟨b, off, spot⟩ := rfl
  rw [e] at h
  have hb := World.block_lt_of_cell? w _ h
  cases spot with
  | none => exact ⟨b, off, rfl, hb⟩
  | some x =>
    unfold World.cell? at h
    split at h
    · simp at h
    · cases h
variable {H : Type} {enc : TypeId × Value → H} {w : World}
abbrev Tr (enc : TypeId × Value → H) (w : World) (n : Nat) (t : TypeId) (cs : List Value) (x : DataW H × List MemPlace) : Prop := DataW.trod enc Tryd.prog w 0 (fun _ => true) true n t cs = some x
/-- no size in it is more than the reach. -/
def Wt (t : TypeId) (d : DataW H) : Prop := ∀ m ∈ d.weights Tryd.prog t, m ≤ reachBytes
theorem all_mem {e : TypeId} {l : List (DataW H)} {d : DataW H} (hd : d ∈ l) : ∀ m ∈ d.weights Tryd.prog e, m ∈ DataW.weightsAll Tryd.prog e l := by
  induction l with
  | nil => cases hd
  | cons x l ih =>
    intro m hm
    simp only [DataW.weightsAll, List.mem_append]
    rcases List.mem_cons.1 hd with rfl | hd
    · exact .inl hm
    · exact .inr (ih hd m hm)
theorem open_row {α : Type} {t e : TypeId} {size bts : Nat} {Q : List Value → α → Prop} {G : α → Prop} (ht : Tryd.prog.underlying t = some (.slice e)) (hc : Tryd.prog.cellsOf e = size) (hs : 0 < size) (hbt : Tryd.prog.bytesOf e = bts) (hb2 : 1 ≤ bts) {fuel : Nat} {v : Value} {x : DataW H × List MemPlace}
    (h : Tr enc w fuel t [v] x) (hw : Wt t x.1) (each : ∀ (n : Nat) (cs : List Value) (y : DataW H × List MemPlace), cs.length = size → Tr enc w n e cs y → Wt e y.1 → ∃ a : α, Q cs a ∧ G a) :
    ∃ xs : List α, Row 0 w.heap.size w size Q v xs ∧ ∀ a ∈ xs, G a := by
  rcases open_slice ht h with ⟨hcs, _⟩ | ⟨a, len, cap, m, n, D, Pl, hcs, _, hl, hm, hmm, hx, hall⟩
  · simp only [List.cons.injEq, and_true] at hcs
    subst hcs
    exact ⟨[], ⟨none, 0, 0, 0, 0, rfl, rfl, by omega, by omega, fun i x h => by simp at h⟩, by simp⟩
  · simp only [List.cons.injEq, and_true] at hcs
    subst hcs
    simp only [if_true] at hmm
    subst hmm
    subst hx
    rw [hc] at hall
    have hsz : len * bts ≤ reachBytes := by
      have h1 := hw ((len + (m - len)) * bts) (by simp [DataW.weights, ht, hbt])
      have : len ≤ len + (m - len) := by omega
      exact Nat.le_trans (Nat.mul_le_mul_right _ this) h1
    have hlen : len ≤ 4611686018427387903 := by
      have h2 : len * 1 ≤ len * bts := Nat.mul_le_mul_left _ hb2
      simp only [reachBytes] at hsz
      omega
    have hone : ∀ i, i < len → ∃ p : α × List Value, p.2.length = size ∧ (∀ j u, p.2[j]? = some u → w.cell? (a.add (i * size + j)) = some u) ∧ Q p.2 p.1 ∧ G p.1 := by
      intro i hi
      obtain ⟨cs', h1, h2⟩ := hall i (by omega)
      obtain ⟨_, hcl, hcell⟩ := World.cells?_some h1
      obtain ⟨y, hy, hg⟩ := each n cs' _ hcl h2 (fun q hq => hw q (by
        simp only [DataW.weights, ht]
        refine List.mem_cons_of_mem _ (List.mem_append_left _ (all_mem (d := D i) (List.mem_map.2 ⟨i, List.mem_range.2 hi, rfl⟩) q hq))))
      refine ⟨(y, cs'), hcl, fun j u hj => ?_, hy, hg⟩
      have hj2 : j < cs'.length := (List.getElem?_eq_some_iff.1 hj).1
      have := hcell j (by omega)
      rw [add_add] at this
      rw [this]
      exact hj
    obtain ⟨ps, hpl, hps⟩ := list_of len hone
    refine ⟨ps.map Prod.fst, ?_, ?_⟩
    · by_cases h0 : len = 0
      · subst h0
        have : ps = [] := List.eq_nil_of_length_eq_zero hpl
        subst this
        exact ⟨some a, 0, m, 0, 0, rfl, rfl, by omega, by omega, fun i x h => by simp at h⟩
      · obtain ⟨p0, hp0⟩ : ∃ p, ps[0]? = some p := ⟨_, List.getElem?_eq_getElem (by omega)⟩
        obtain ⟨q1, q2, _⟩ := hps 0 p0 hp0
        obtain ⟨u, hu⟩ : ∃ u, p0.2[0]? = some u := ⟨_, List.getElem?_eq_getElem (by omega)⟩
        obtain ⟨b, off, rfl, hb⟩ := addr_of (by have := q2 0 u hu; rwa [Nat.zero_mul] at this)
        refine ⟨_, len, m, b, off, rfl, by rw [List.length_map, hpl], ⟨hlen, hl⟩, fun _ => ⟨rfl, Nat.zero_le _, hb⟩, fun i x hx => ?_⟩
        rw [List.getElem?_map] at hx
        obtain ⟨p, hp, rfl⟩ := Option.map_eq_some_iff.1 hx
        obtain ⟨r1, r2, r3, _⟩ := hps i p hp
        refine ⟨p.2, r1, fun j u hj => ?_, r3⟩
        have := r2 j u hj
        rw [add_plain] at this
        rw [Nat.add_assoc]
        exact this
    · intro x hx
      obtain ⟨p, hp, rfl⟩ := List.mem_map.1 hx
      obtain ⟨i, hi, rfl⟩ := List.mem_iff_getElem.1 hp
      exact (hps i _ (List.getElem?_eq_getElem hi)).2.2.2
theorem open_fields {e : TypeId} {fs : Array Field} {n : Nat} {cs : List Value} {y : DataW H × List MemPlace} (he : Tryd.prog.underlying e = some (.struct fs)) (h : Tr enc w n e cs y) (hw : Wt e y.1) :
    ∃ n2, ∀ (i : Nat) (f : Field), fs[i]? = some f → ∃ z, Tr enc w n2 f.type ((cs.drop f.offset).take (Tryd.prog.cellsOf f.type)) z ∧ Wt f.type z.1 := by
  obtain ⟨xs, k, hk, hxy, _, hxl, hf⟩ := DataW.trod_struct he h
  refine ⟨k, fun i f hfi => ?_⟩
  have hi : i < xs.length := by rw [hxl]; exact (Array.getElem?_eq_some_iff.1 hfi).1
  refine ⟨xs[i], (hf i f hfi).trans (List.getElem?_eq_getElem hi), fun q hq => hw q ?_⟩
  rw [hxy]
  simp only [DataW.weights, he]
  refine DataW.weights_mem_each (j := i) (t := f.type) (d := xs[i].1) ?_ ?_ q hq
  · rw [List.getElem?_map, Array.getElem?_toList, hfi]; rfl
  · rw [List.getElem?_map, List.getElem?_eq_getElem hi]; rfl
theorem take_fix {n k off : Nat} {t : TypeId} {cs : List Value} {z : DataW H × List MemPlace} (h : Tr enc w n t ((cs.drop off).take (Tryd.prog.cellsOf t)) z) (hc : Tryd.prog.cellsOf t = k) : Tr enc w n t ((cs.drop off).take k) z := by
  rw [hc] at h; exact h
theorem c_int : Tryd.prog.cellsOf 3 = 1 := by kernel_rfl
theorem c_int64 : Tryd.prog.cellsOf 2 = 1 := by kernel_rfl
theorem c_str : Tryd.prog.cellsOf 9 = 1 := by kernel_rfl
theorem c_bool : Tryd.prog.cellsOf 4 = 1 := by kernel_rfl
theorem c_arg : Tryd.prog.cellsOf 32 = 3 := by kernel_rfl
theorem c_var : Tryd.prog.cellsOf 40 = 2 := by kernel_rfl
theorem c_ext : Tryd.prog.cellsOf 47 = 2 := by kernel_rfl
theorem c_bind : Tryd.prog.cellsOf 155 = 4 := by kernel_rfl
theorem c_in : Tryd.prog.cellsOf 125 = 4 := by kernel_rfl
theorem c_class : Tryd.prog.cellsOf 36 = 2 := by kernel_rfl
theorem c_frame : Tryd.prog.cellsOf 153 = 4 := by kernel_rfl
theorem c_virt : Tryd.prog.cellsOf 157 = 2 := by kernel_rfl
theorem c_instr : Tryd.prog.cellsOf 59 = 6 := by kernel_rfl
theorem c_phi : Tryd.prog.cellsOf 123 = 2 := by kernel_rfl
theorem c_term : Tryd.prog.cellsOf 63 = 6 := by kernel_rfl
theorem c_block : Tryd.prog.cellsOf 94 = 9 := by kernel_rfl
theorem c_func : Tryd.prog.cellsOf 30 = 5 := by kernel_rfl
theorem c_prog : Tryd.prog.cellsOf 27 = 5 := by kernel_rfl
theorem c_sl1 : Tryd.prog.cellsOf 55 = 1 := by kernel_rfl
theorem c_sl2 : Tryd.prog.cellsOf 23 = 1 := by kernel_rfl
theorem c_sl3 : Tryd.prog.cellsOf 151 = 1 := by kernel_rfl
theorem c_sl4 : Tryd.prog.cellsOf 121 = 1 := by kernel_rfl
theorem c_sl5 : Tryd.prog.cellsOf 56 = 1 := by kernel_rfl
theorem c_sl6 : Tryd.prog.cellsOf 57 = 1 := by kernel_rfl
theorem c_sl7 : Tryd.prog.cellsOf 61 = 1 := by kernel_rfl
theorem c_sl8 : Tryd.prog.cellsOf 91 = 1 := by kernel_rfl
theorem c_sl9 : Tryd.prog.cellsOf 92 = 1 := by kernel_rfl
theorem c_sl10 : Tryd.prog.cellsOf 28 = 1 := by kernel_rfl
theorem c_sl11 : Tryd.prog.cellsOf 22 = 1 := by kernel_rfl
theorem c_sl12 : Tryd.prog.cellsOf 24 = 1 := by kernel_rfl
theorem c_sl13 : Tryd.prog.cellsOf 25 = 1 := by kernel_rfl

/-! ### texts and numbers within bounds -/
def strG (x : Wd) : Prop := x.length ≤ 140737488351232
def argG (a : Arg) : Prop := (NumM.In a.kind ∧ NumM.In a.n) ∧ strG a.s
def varG (v : Var) : Prop := strG v.name ∧ strG v.type
def extG (e : Extern) : Prop := strG e.name ∧ NumM.In e.n
def bindG (b : Bind) : Prop := strG b.name ∧ argG b.a
def classG (c : Class) : Prop := strG c.name ∧ ∀ v ∈ c.fields, varG v
def frameG (f : Api.Frame) : Prop := (strG f.func ∧ strG f.block) ∧ NumM.In f.pos ∧ ∀ b ∈ f.vars, bindG b
def virtG (v : Virt) : Prop := strG v.cls ∧ ∀ a ∈ v.vals, argG a
def instrG (i : Instr) : Prop := (NumM.In i.op ∧ strG i.dst ∧ strG i.name) ∧ (∀ a ∈ i.args, argG a) ∧ (∀ f ∈ i.frames, frameG f) ∧ ∀ o ∈ i.objs, virtG o
def phiG (p : Phi) : Prop := strG p.dst ∧ ∀ b ∈ p.ins, bindG b
def termG (t : Api.Term) : Prop := NumM.In t.kind ∧ argG t.a ∧ (∀ x ∈ t.dest, strG x) ∧ NumM.In t.n
def blockG (b : Api.Block) : Prop := strG b.name ∧ (∀ p ∈ b.phis, phiG p) ∧ (∀ i ∈ b.code, instrG i) ∧ termG b.fin
def funcG (f : Api.Func) : Prop := (strG f.name ∧ strG f.result) ∧ (∀ v ∈ f.params, varG v) ∧ (∀ v ∈ f.vars, varG v) ∧ ∀ b ∈ f.blocks, blockG b
def progG (p : Prog) : Prop := (∀ c ∈ p.classes, classG c) ∧ (∀ v ∈ p.globals, varG v) ∧ (∀ e ∈ p.externs, extG e) ∧ ∀ f ∈ p.funcs, funcG f

theorem t_str {n : Nat} {c : Value} {z : DataW H × List MemPlace} (h : Tr enc w n 9 [c] z) (hw : Wt 9 z.1) : ∃ x : Wd, c = str x ∧ strG x := by
  obtain ⟨s, hs, hz, _⟩ := DataW.trod_string Tryd.underlying9 h
  simp only [List.cons.injEq, and_true] at hs
  refine ⟨s.data.toList, by rw [hs], ?_⟩
  have := hw s.data.toList.length (by rw [hz]; simp [DataW.weights])
  simp only [reachBytes] at this
  exact this
theorem t_int {n : Nat} {c : Value} {z : DataW H × List MemPlace} (h : Tr enc w n 3 [c] z) : ∃ k : Int, c = i64 k ∧ NumM.In k := by
  obtain ⟨k, hs, _, hwf⟩ := DataW.trod_int Tryd.underlying3 h
  simp only [List.cons.injEq, and_true] at hs
  exact ⟨k, hs, NumM.in_of_wf hwf⟩
theorem t_int64 {n : Nat} {c : Value} {z : DataW H × List MemPlace} (h : Tr enc w n 2 [c] z) : ∃ k : Int, c = i64 k ∧ NumM.In k := by
  obtain ⟨k, hs, _, hwf⟩ := DataW.trod_int Tryd.underlying2 h
  simp only [List.cons.injEq, and_true] at hs
  exact ⟨k, hs, NumM.in_of_wf hwf⟩
theorem two {cs : List Value} (h : cs.length = 2) : ∃ a b, cs = [a, b] := by match cs, h with | [a, b], _ => exact ⟨a, b, rfl⟩
theorem three {cs : List Value} (h : cs.length = 3) : ∃ a b c, cs = [a, b, c] := by match cs, h with | [a, b, c], _ => exact ⟨a, b, c, rfl⟩
theorem four {cs : List Value} (h : cs.length = 4) : ∃ a b c d, cs = [a, b, c, d] := by match cs, h with | [a, b, c, d], _ => exact ⟨a, b, c, d, rfl⟩
theorem five {cs : List Value} (h : cs.length = 5) : ∃ a b c d e, cs = [a, b, c, d, e] := by match cs, h with | [a, b, c, d, e], _ => exact ⟨a, b, c, d, e, rfl⟩
theorem six {cs : List Value} (h : cs.length = 6) : ∃ a b c d e f, cs = [a, b, c, d, e, f] := by match cs, h with | [a, b, c, d, e, f], _ => exact ⟨a, b, c, d, e, f, rfl⟩
theorem nine {cs : List Value} (h : cs.length = 9) : ∃ a b c d e f g i j, cs = [a, b, c, d, e, f, g, i, j] := by match cs, h with | [a, b, c, d, e, f, g, i, j], _ => exact ⟨a, b, c, d, e, f, g, i, j, rfl⟩

variable {n : Nat} {cs : List Value} {y : DataW H × List MemPlace}
theorem t_arg (hl : cs.length = 3) (h : Tr enc w n 32 cs y) (hw : Wt 32 y.1) : ∃ a : Arg, cs = argC a ∧ argG a := by
  obtain ⟨c0, c1, c2, rfl⟩ := three hl
  obtain ⟨n2, hf⟩ := open_fields Tryd.underlying32 h hw
  obtain ⟨z0, t0, w0⟩ := hf 0 _ rfl
  obtain ⟨z1, t1, w1⟩ := hf 1 _ rfl
  obtain ⟨z2, t2, w2⟩ := hf 2 _ rfl
  obtain ⟨k, rfl, hk⟩ := t_int (take_fix t0 c_int)
  obtain ⟨x, rfl, hx⟩ := t_str (take_fix t1 c_str) w1
  obtain ⟨m, rfl, hm⟩ := t_int64 (take_fix t2 c_int64)
  exact ⟨⟨k, x, m⟩, rfl, ⟨hk, hm⟩, hx⟩
theorem t_var (hl : cs.length = 2) (h : Tr enc w n 40 cs y) (hw : Wt 40 y.1) : ∃ a : Var, cs = varC a ∧ varG a := by
  obtain ⟨c0, c1, rfl⟩ := two hl
  obtain ⟨n2, hf⟩ := open_fields Tryd.underlying40 h hw
  obtain ⟨z0, t0, w0⟩ := hf 0 _ rfl
  obtain ⟨z1, t1, w1⟩ := hf 1 _ rfl
  obtain ⟨x, rfl, hx⟩ := t_str (take_fix t0 c_str) w0
  obtain ⟨x2, rfl, hx2⟩ := t_str (take_fix t1 c_str) w1
  exact ⟨⟨x, x2⟩, rfl, hx, hx2⟩
theorem t_ext (hl : cs.length = 2) (h : Tr enc w n 47 cs y) (hw : Wt 47 y.1) : ∃ a : Extern, cs = externC a ∧ extG a := by
  obtain ⟨c0, c1, rfl⟩ := two hl
  obtain ⟨n2, hf⟩ := open_fields Tryd.underlying47 h hw
  obtain ⟨z0, t0, w0⟩ := hf 0 _ rfl
  obtain ⟨z1, t1, w1⟩ := hf 1 _ rfl
  obtain ⟨x, rfl, hx⟩ := t_str (take_fix t0 c_str) w0
  obtain ⟨k, rfl, hk⟩ := t_int (take_fix t1 c_int)
  exact ⟨⟨x, k⟩, rfl, hx, hk⟩
theorem t_bind (hl : cs.length = 4) (h : Tr enc w n 155 cs y) (hw : Wt 155 y.1) : ∃ a : Bind, cs = bindC a ∧ bindG a := by
  obtain ⟨c0, c1, c2, c3, rfl⟩ := four hl
  obtain ⟨n2, hf⟩ := open_fields Tryd.underlying155 h hw
  obtain ⟨z0, t0, w0⟩ := hf 0 _ rfl
  obtain ⟨z1, t1, w1⟩ := hf 1 _ rfl
  obtain ⟨x, rfl, hx⟩ := t_str (take_fix t0 c_str) w0
  obtain ⟨a, ha, hg⟩ := t_arg (by rfl) (take_fix t1 c_arg) w1
  exact ⟨⟨x, a⟩, congrArg (str x :: ·) ha, hx, hg⟩
theorem t_in (hl : cs.length = 4) (h : Tr enc w n 125 cs y) (hw : Wt 125 y.1) : ∃ a : Bind, cs = bindC a ∧ bindG a := by
  obtain ⟨c0, c1, c2, c3, rfl⟩ := four hl
  obtain ⟨n2, hf⟩ := open_fields Tryd.underlying125 h hw
  obtain ⟨z0, t0, w0⟩ := hf 0 _ rfl
  obtain ⟨z1, t1, w1⟩ := hf 1 _ rfl
  obtain ⟨x, rfl, hx⟩ := t_str (take_fix t0 c_str) w0
  obtain ⟨a, ha, hg⟩ := t_arg (by rfl) (take_fix t1 c_arg) w1
  exact ⟨⟨x, a⟩, congrArg (str x :: ·) ha, hx, hg⟩
variable {v : Value}
theorem t_args (h : Tr enc w n 55 [v] y) (hw : Wt 55 y.1) : ∃ xs, Args 0 w.heap.size w v xs ∧ ∀ a ∈ xs, argG a :=
  open_row (bts := 32) Tryd.underlying55 c_arg (by decide) (by kernel_rfl) (by decide) h hw fun _ _ _ hl h hw => t_arg hl h hw
theorem t_vars (h : Tr enc w n 23 [v] y) (hw : Wt 23 y.1) : ∃ xs, Vars 0 w.heap.size w v xs ∧ ∀ a ∈ xs, varG a :=
  open_row (bts := 32) Tryd.underlying23 c_var (by decide) (by kernel_rfl) (by decide) h hw fun _ _ _ hl h hw => t_var hl h hw
theorem t_exts (h : Tr enc w n 24 [v] y) (hw : Wt 24 y.1) : ∃ xs, Externs 0 w.heap.size w v xs ∧ ∀ a ∈ xs, extG a :=
  open_row (bts := 24) Tryd.underlying24 c_ext (by decide) (by kernel_rfl) (by decide) h hw fun _ _ _ hl h hw => t_ext hl h hw
theorem t_binds (h : Tr enc w n 151 [v] y) (hw : Wt 151 y.1) : ∃ xs, Binds 0 w.heap.size w v xs ∧ ∀ a ∈ xs, bindG a :=
  open_row (bts := 48) Tryd.underlying151 c_bind (by decide) (by kernel_rfl) (by decide) h hw fun _ _ _ hl h hw => t_bind hl h hw
theorem t_ins (h : Tr enc w n 121 [v] y) (hw : Wt 121 y.1) : ∃ xs, Binds 0 w.heap.size w v xs ∧ ∀ a ∈ xs, bindG a :=
  open_row (bts := 48) Tryd.underlying121 c_in (by decide) (by kernel_rfl) (by decide) h hw fun _ _ _ hl h hw => t_in hl h hw
theorem t_texts (h : Tr enc w n 61 [v] y) (hw : Wt 61 y.1) : ∃ xs, Texts 0 w.heap.size w v xs ∧ ∀ a ∈ xs, strG a :=
  open_row (bts := 16) Tryd.underlying61 c_str (by decide) (by kernel_rfl) (by decide) h hw fun _ cs _ hl h hw => by
    match cs, hl with
    | [c], _ =>
      obtain ⟨x, rfl, hx⟩ := t_str h hw
      exact ⟨x, rfl, hx⟩
theorem t_class (hl : cs.length = 2) (h : Tr enc w n 36 cs y) (hw : Wt 36 y.1) : ∃ a : Class, ClassC 0 w.heap.size w cs a ∧ classG a := by
  obtain ⟨c0, c1, rfl⟩ := two hl
  obtain ⟨n2, hf⟩ := open_fields Tryd.underlying36 h hw
  obtain ⟨z0, t0, w0⟩ := hf 0 _ rfl
  obtain ⟨z1, t1, w1⟩ := hf 1 _ rfl
  obtain ⟨x, rfl, hx⟩ := t_str (take_fix t0 c_str) w0
  obtain ⟨l, hl, hg⟩ := t_vars (take_fix t1 c_sl2) w1
  exact ⟨⟨x, l⟩, ⟨_, rfl, hl⟩, hx, hg⟩
theorem t_frame (hl : cs.length = 4) (h : Tr enc w n 153 cs y) (hw : Wt 153 y.1) : ∃ a : Api.Frame, FrameC 0 w.heap.size w cs a ∧ frameG a := by
  obtain ⟨c0, c1, c2, c3, rfl⟩ := four hl
  obtain ⟨n2, hf⟩ := open_fields Tryd.underlying153 h hw
  obtain ⟨z0, t0, w0⟩ := hf 0 _ rfl
  obtain ⟨z1, t1, w1⟩ := hf 1 _ rfl
  obtain ⟨z2, t2, w2⟩ := hf 2 _ rfl
  obtain ⟨z3, t3, w3⟩ := hf 3 _ rfl
  obtain ⟨x, rfl, hx⟩ := t_str (take_fix t0 c_str) w0
  obtain ⟨x2, rfl, hx2⟩ := t_str (take_fix t1 c_str) w1
  obtain ⟨k, rfl, hk⟩ := t_int (take_fix t2 c_int)
  obtain ⟨l, hl, hg⟩ := t_binds (take_fix t3 c_sl3) w3
  exact ⟨⟨x, x2, k, l⟩, ⟨_, rfl, hl⟩, ⟨hx, hx2⟩, hk, hg⟩
theorem t_virt (hl : cs.length = 2) (h : Tr enc w n 157 cs y) (hw : Wt 157 y.1) : ∃ a : Virt, VirtC 0 w.heap.size w cs a ∧ virtG a := by
  obtain ⟨c0, c1, rfl⟩ := two hl
  obtain ⟨n2, hf⟩ := open_fields Tryd.underlying157 h hw
  obtain ⟨z0, t0, w0⟩ := hf 0 _ rfl
  obtain ⟨z1, t1, w1⟩ := hf 1 _ rfl
  obtain ⟨x, rfl, hx⟩ := t_str (take_fix t0 c_str) w0
  obtain ⟨l, hl, hg⟩ := t_args (take_fix t1 c_sl1) w1
  exact ⟨⟨x, l⟩, ⟨_, rfl, hl⟩, hx, hg⟩
theorem t_frames (h : Tr enc w n 56 [v] y) (hw : Wt 56 y.1) : ∃ xs, Frames 0 w.heap.size w v xs ∧ ∀ a ∈ xs, frameG a :=
  open_row (bts := 64) Tryd.underlying56 c_frame (by decide) (by kernel_rfl) (by decide) h hw fun _ _ _ hl h hw => t_frame hl h hw
theorem t_virts (h : Tr enc w n 57 [v] y) (hw : Wt 57 y.1) : ∃ xs, Virts 0 w.heap.size w v xs ∧ ∀ a ∈ xs, virtG a :=
  open_row (bts := 40) Tryd.underlying57 c_virt (by decide) (by kernel_rfl) (by decide) h hw fun _ _ _ hl h hw => t_virt hl h hw
theorem t_instr (hl : cs.length = 6) (h : Tr enc w n 59 cs y) (hw : Wt 59 y.1) : ∃ a : Instr, InstrC 0 w.heap.size w cs a ∧ instrG a := by
  obtain ⟨c0, c1, c2, c3, c4, c5, rfl⟩ := six hl
  obtain ⟨n2, hf⟩ := open_fields Tryd.underlying59 h hw
  obtain ⟨z0, t0, w0⟩ := hf 0 _ rfl
  obtain ⟨z1, t1, w1⟩ := hf 1 _ rfl
  obtain ⟨z2, t2, w2⟩ := hf 2 _ rfl
  obtain ⟨z3, t3, w3⟩ := hf 3 _ rfl
  obtain ⟨z4, t4, w4⟩ := hf 4 _ rfl
  obtain ⟨z5, t5, w5⟩ := hf 5 _ rfl
  obtain ⟨k, rfl, hk⟩ := t_int (take_fix t0 c_int)
  obtain ⟨x, rfl, hx⟩ := t_str (take_fix t1 c_str) w1
  obtain ⟨x2, rfl, hx2⟩ := t_str (take_fix t2 c_str) w2
  obtain ⟨l3, hl3, hg3⟩ := t_args (take_fix t3 c_sl1) w3
  obtain ⟨l4, hl4, hg4⟩ := t_frames (take_fix t4 c_sl5) w4
  obtain ⟨l5, hl5, hg5⟩ := t_virts (take_fix t5 c_sl6) w5
  exact ⟨⟨k, x, x2, l3, l4, l5⟩, ⟨_, _, _, rfl, hl3, hl4, hl5⟩, ⟨hk, hx, hx2⟩, hg3, hg4, hg5⟩
theorem t_phi (hl : cs.length = 2) (h : Tr enc w n 123 cs y) (hw : Wt 123 y.1) : ∃ a : Phi, PhiC 0 w.heap.size w cs a ∧ phiG a := by
  obtain ⟨c0, c1, rfl⟩ := two hl
  obtain ⟨n2, hf⟩ := open_fields Tryd.underlying123 h hw
  obtain ⟨z0, t0, w0⟩ := hf 0 _ rfl
  obtain ⟨z1, t1, w1⟩ := hf 1 _ rfl
  obtain ⟨x, rfl, hx⟩ := t_str (take_fix t0 c_str) w0
  obtain ⟨l, hl, hg⟩ := t_ins (take_fix t1 c_sl4) w1
  exact ⟨⟨x, l⟩, ⟨_, rfl, hl⟩, hx, hg⟩
theorem t_term (hl : cs.length = 6) (h : Tr enc w n 63 cs y) (hw : Wt 63 y.1) : ∃ a : Api.Term, TermC 0 w.heap.size w cs a ∧ termG a := by
  obtain ⟨c0, c1, c2, c3, c4, c5, rfl⟩ := six hl
  obtain ⟨n2, hf⟩ := open_fields Tryd.underlying63 h hw
  obtain ⟨z0, t0, w0⟩ := hf 0 _ rfl
  obtain ⟨z1, t1, w1⟩ := hf 1 _ rfl
  obtain ⟨z2, t2, w2⟩ := hf 2 _ rfl
  obtain ⟨z3, t3, w3⟩ := hf 3 _ rfl
  obtain ⟨k, rfl, hk⟩ := t_int (take_fix t0 c_int)
  obtain ⟨a, ha, hga⟩ := t_arg (by rfl) (take_fix t1 c_arg) w1
  obtain ⟨l, hll, hg⟩ := t_texts (take_fix t2 c_sl7) w2
  obtain ⟨m, rfl, hm⟩ := t_int64 (take_fix t3 c_int64)
  have ha2 : [c1, c2, c3] = [i64 a.kind, str a.s, i64 a.n] := ha
  simp only [List.cons.injEq, and_true] at ha2
  obtain ⟨rfl, rfl, rfl⟩ := ha2
  exact ⟨⟨k, a, l, m⟩, ⟨_, rfl, hll⟩, hk, hga, hg, hm⟩
theorem t_instrs (h : Tr enc w n 92 [v] y) (hw : Wt 92 y.1) : ∃ xs, Instrs 0 w.heap.size w v xs ∧ ∀ a ∈ xs, instrG a :=
  open_row (bts := 112) Tryd.underlying92 c_instr (by decide) (by kernel_rfl) (by decide) h hw fun _ _ _ hl h hw => t_instr hl h hw
theorem t_phis (h : Tr enc w n 91 [v] y) (hw : Wt 91 y.1) : ∃ xs, Phis 0 w.heap.size w v xs ∧ ∀ a ∈ xs, phiG a :=
  open_row (bts := 40) Tryd.underlying91 c_phi (by decide) (by kernel_rfl) (by decide) h hw fun _ _ _ hl h hw => t_phi hl h hw
theorem t_block (hl : cs.length = 9) (h : Tr enc w n 94 cs y) (hw : Wt 94 y.1) : ∃ a : Api.Block, BlockC 0 w.heap.size w cs a ∧ blockG a := by
  obtain ⟨c0, c1, c2, c3, c4, c5, c6, c7, c8, rfl⟩ := nine hl
  obtain ⟨n2, hf⟩ := open_fields Tryd.underlying94 h hw
  obtain ⟨z0, t0, w0⟩ := hf 0 _ rfl
  obtain ⟨z1, t1, w1⟩ := hf 1 _ rfl
  obtain ⟨z2, t2, w2⟩ := hf 2 _ rfl
  obtain ⟨z3, t3, w3⟩ := hf 3 _ rfl
  obtain ⟨x, rfl, hx⟩ := t_str (take_fix t0 c_str) w0
  obtain ⟨l1, hl1, hg1⟩ := t_phis (take_fix t1 c_sl8) w1
  obtain ⟨l2, hl2, hg2⟩ := t_instrs (take_fix t2 c_sl9) w2
  obtain ⟨a, ha, hga⟩ := t_term (by rfl) (take_fix t3 c_term) w3
  exact ⟨⟨x, l1, l2, a⟩, ⟨_, _, _, rfl, hl1, hl2, ha⟩, hx, hg1, hg2, hga⟩
theorem t_blocks (h : Tr enc w n 28 [v] y) (hw : Wt 28 y.1) : ∃ xs, Blocks 0 w.heap.size w v xs ∧ ∀ a ∈ xs, blockG a :=
  open_row (bts := 136) Tryd.underlying28 c_block (by decide) (by kernel_rfl) (by decide) h hw fun _ _ _ hl h hw => t_block hl h hw
theorem t_func (hl : cs.length = 5) (h : Tr enc w n 30 cs y) (hw : Wt 30 y.1) : ∃ a : Api.Func, FuncC 0 w.heap.size w cs a ∧ funcG a := by
  obtain ⟨c0, c1, c2, c3, c4, rfl⟩ := five hl
  obtain ⟨n2, hf⟩ := open_fields Tryd.underlying30 h hw
  obtain ⟨z0, t0, w0⟩ := hf 0 _ rfl
  obtain ⟨z1, t1, w1⟩ := hf 1 _ rfl
  obtain ⟨z2, t2, w2⟩ := hf 2 _ rfl
  obtain ⟨z3, t3, w3⟩ := hf 3 _ rfl
  obtain ⟨z4, t4, w4⟩ := hf 4 _ rfl
  obtain ⟨x, rfl, hx⟩ := t_str (take_fix t0 c_str) w0
  obtain ⟨x2, rfl, hx2⟩ := t_str (take_fix t1 c_str) w1
  obtain ⟨l2, hl2, hg2⟩ := t_vars (take_fix t2 c_sl2) w2
  obtain ⟨l3, hl3, hg3⟩ := t_vars (take_fix t3 c_sl2) w3
  obtain ⟨l4, hl4, hg4⟩ := t_blocks (take_fix t4 c_sl10) w4
  exact ⟨⟨x, x2, l2, l3, l4⟩, ⟨_, _, _, rfl, hl2, hl3, hl4⟩, ⟨hx, hx2⟩, hg2, hg3, hg4⟩
theorem t_classes (h : Tr enc w n 22 [v] y) (hw : Wt 22 y.1) : ∃ xs, Classes 0 w.heap.size w v xs ∧ ∀ a ∈ xs, classG a :=
  open_row (bts := 40) Tryd.underlying22 c_class (by decide) (by kernel_rfl) (by decide) h hw fun _ _ _ hl h hw => t_class hl h hw
theorem t_funcs (h : Tr enc w n 25 [v] y) (hw : Wt 25 y.1) : ∃ xs, Funcs 0 w.heap.size w v xs ∧ ∀ a ∈ xs, funcG a :=
  open_row (bts := 104) Tryd.underlying25 c_func (by decide) (by kernel_rfl) (by decide) h hw fun _ _ _ hl h hw => t_func hl h hw
theorem t_prog (hl : cs.length = 5) (h : Tr enc w n 27 cs y) (hw : Wt 27 y.1) : ∃ a : Prog, ProgC 0 w.heap.size w cs a ∧ progG a := by
  obtain ⟨c0, c1, c2, c3, c4, rfl⟩ := five hl
  obtain ⟨n2, hf⟩ := open_fields Tryd.underlying27 h hw
  obtain ⟨z0, t0, w0⟩ := hf 0 _ rfl
  obtain ⟨z1, t1, w1⟩ := hf 1 _ rfl
  obtain ⟨z2, t2, w2⟩ := hf 2 _ rfl
  obtain ⟨z3, t3, w3⟩ := hf 3 _ rfl
  obtain ⟨z4, t4, w4⟩ := hf 4 _ rfl
  obtain ⟨b, hb, _⟩ := DataW.trod_bool Tryd.underlying4 (take_fix t0 c_bool)
  have hb2 : [c0] = [.bool b] := hb
  simp only [List.cons.injEq, and_true] at hb2
  subst hb2
  obtain ⟨l1, hl1, hg1⟩ := t_classes (take_fix t1 c_sl11) w1
  obtain ⟨l2, hl2, hg2⟩ := t_vars (take_fix t2 c_sl2) w2
  obtain ⟨l3, hl3, hg3⟩ := t_exts (take_fix t3 c_sl12) w3
  obtain ⟨l4, hl4, hg4⟩ := t_funcs (take_fix t4 c_sl13) w4
  exact ⟨⟨b, l1, l2, l3, l4⟩, ⟨_, _, _, _, rfl, hl1, hl2, hl3, hl4⟩, hg1, hg2, hg3, hg4⟩
set_option maxRecDepth 100000 in
/-- A program as an argument. -/
theorem open_prog {ts : List TypeId} {ds : List (DataW H)} (hsz : (DataW.weightsEach Tryd.prog ts ds).all (· ≤ reachBytes) = true) {j : Nat} {v : Value} {d : DataW H} {p : List MemPlace} (ht : ts[j]? = some 27) (hd : ds[j]? = some d)
    {base : Nat} {r : Reach} (hval : Value.okWide Tryd.prog w r base 27 v) (h : DataW.Trod enc Tryd.prog w 0 (fun _ => true) true 27 v d p) : ∃ q : Prog × List Value, v = .agg q.2.toArray ∧ ProgC 0 w.heap.size w q.2 q.1 ∧ progG q.1 := by
  obtain ⟨cs, rfl, hs⟩ := okWide_struct Tryd.underlying27 hval
  obtain ⟨fuel, h⟩ := h
  have hw : Wt 27 d := fun m hm => by
    have := List.all_eq_true.1 hsz m (DataW.weights_mem_each ht hd m hm)
    simpa using this
  obtain ⟨q, h1, h2⟩ := t_prog (cs := cs.toList) (by rw [Array.length_toList, hs]; exact c_prog) (show Tr enc w fuel 27 cs.toList (d, p) from h) hw
  exact ⟨(q, cs.toList), by simp, h1, h2⟩
set_option maxRecDepth 100000 in
theorem open_func {ts : List TypeId} {ds : List (DataW H)} (hsz : (DataW.weightsEach Tryd.prog ts ds).all (· ≤ reachBytes) = true) {j : Nat} {v : Value} {d : DataW H} {p : List MemPlace} (ht : ts[j]? = some 30) (hd : ds[j]? = some d)
    {base : Nat} {r : Reach} (hval : Value.okWide Tryd.prog w r base 30 v) (h : DataW.Trod enc Tryd.prog w 0 (fun _ => true) true 30 v d p) : ∃ q : Api.Func × List Value, v = .agg q.2.toArray ∧ FuncC 0 w.heap.size w q.2 q.1 ∧ funcG q.1 := by
  obtain ⟨cs, rfl, hs⟩ := okWide_struct Tryd.underlying30 hval
  obtain ⟨fuel, h⟩ := h
  have hw : Wt 30 d := fun m hm => by
    have := List.all_eq_true.1 hsz m (DataW.weights_mem_each ht hd m hm)
    simpa using this
  obtain ⟨q, h1, h2⟩ := t_func (cs := cs.toList) (by rw [Array.length_toList, hs]; exact c_func) (show Tr enc w fuel 30 cs.toList (d, p) from h) hw
  exact ⟨(q, cs.toList), by simp, h1, h2⟩
set_option maxRecDepth 100000 in
theorem open_instr {ts : List TypeId} {ds : List (DataW H)} (hsz : (DataW.weightsEach Tryd.prog ts ds).all (· ≤ reachBytes) = true) {j : Nat} {v : Value} {d : DataW H} {p : List MemPlace} (ht : ts[j]? = some 59) (hd : ds[j]? = some d)
    {base : Nat} {r : Reach} (hval : Value.okWide Tryd.prog w r base 59 v) (h : DataW.Trod enc Tryd.prog w 0 (fun _ => true) true 59 v d p) : ∃ q : Instr × List Value, v = .agg q.2.toArray ∧ InstrC 0 w.heap.size w q.2 q.1 ∧ instrG q.1 := by
  obtain ⟨cs, rfl, hs⟩ := okWide_struct Tryd.underlying59 hval
  obtain ⟨fuel, h⟩ := h
  have hw : Wt 59 d := fun m hm => by
    have := List.all_eq_true.1 hsz m (DataW.weights_mem_each ht hd m hm)
    simpa using this
  obtain ⟨q, h1, h2⟩ := t_instr (cs := cs.toList) (by rw [Array.length_toList, hs]; exact c_instr) (show Tr enc w fuel 59 cs.toList (d, p) from h) hw
  exact ⟨(q, cs.toList), by simp, h1, h2⟩
set_option maxRecDepth 100000 in
theorem open_term {ts : List TypeId} {ds : List (DataW H)} (hsz : (DataW.weightsEach Tryd.prog ts ds).all (· ≤ reachBytes) = true) {j : Nat} {v : Value} {d : DataW H} {p : List MemPlace} (ht : ts[j]? = some 63) (hd : ds[j]? = some d)
    {base : Nat} {r : Reach} (hval : Value.okWide Tryd.prog w r base 63 v) (h : DataW.Trod enc Tryd.prog w 0 (fun _ => true) true 63 v d p) : ∃ q : Api.Term × List Value, v = .agg q.2.toArray ∧ TermC 0 w.heap.size w q.2 q.1 ∧ termG q.1 := by
  obtain ⟨cs, rfl, hs⟩ := okWide_struct Tryd.underlying63 hval
  obtain ⟨fuel, h⟩ := h
  have hw : Wt 63 d := fun m hm => by
    have := List.all_eq_true.1 hsz m (DataW.weights_mem_each ht hd m hm)
    simpa using this
  obtain ⟨q, h1, h2⟩ := t_term (cs := cs.toList) (by rw [Array.length_toList, hs]; exact c_term) (show Tr enc w fuel 63 cs.toList (d, p) from h) hw
  exact ⟨(q, cs.toList), by simp, h1, h2⟩
set_option maxRecDepth 100000 in
theorem open_var {ts : List TypeId} {ds : List (DataW H)} (hsz : (DataW.weightsEach Tryd.prog ts ds).all (· ≤ reachBytes) = true) {j : Nat} {v : Value} {d : DataW H} {p : List MemPlace} (ht : ts[j]? = some 40) (hd : ds[j]? = some d)
    {base : Nat} {r : Reach} (hval : Value.okWide Tryd.prog w r base 40 v) (h : DataW.Trod enc Tryd.prog w 0 (fun _ => true) true 40 v d p) : ∃ q : Var × List Value, v = .agg q.2.toArray ∧ q.2 = varC q.1 ∧ varG q.1 := by
  obtain ⟨cs, rfl, hs⟩ := okWide_struct Tryd.underlying40 hval
  obtain ⟨fuel, h⟩ := h
  have hw : Wt 40 d := fun m hm => by
    have := List.all_eq_true.1 hsz m (DataW.weights_mem_each ht hd m hm)
    simpa using this
  obtain ⟨q, h1, h2⟩ := t_var (cs := cs.toList) (by rw [Array.length_toList, hs]; exact c_var) (show Tr enc w fuel 40 cs.toList (d, p) from h) hw
  exact ⟨(q, cs.toList), by simp, h1, h2⟩
end Go.Proofs.YtikfncgdjnljiaaDoor.OpenP
