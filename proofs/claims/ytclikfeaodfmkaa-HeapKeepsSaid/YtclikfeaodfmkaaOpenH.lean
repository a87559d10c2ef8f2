/-
  Heaps and values as arguments.
-/
import Derived.Test.YtclikfeaodfmkaaOpenP
import Derived.Test.YtclikfeaodfmkaaHpMem
namespace Go.Proofs.Ytclikfeaodfmkaa.OpenH
open Go.ChangeShapes Go.WideShapes Go.ChangeAt Go.RowKit Go.Deep Api OpenP Hp15
variable {H : Type} {enc : TypeId × Value → H} {w : World}
theorem c_val : Try.prog.cellsOf 25 = 2 := by kernel_rfl
theorem c_obj : Try.prog.cellsOf 33 = 2 := by kernel_rfl
theorem c_vals : Try.prog.cellsOf 23 = 1 := by kernel_rfl
variable {n : Nat} {cs : List Value} {y : DataW H × List MemPlace}
theorem t_val (hl : cs.length = 2) (h : Tr enc w n 25 cs y) (hw : Wt 25 y.1) : ∃ a : Vl, cs = vlC a ∧ vlG a := by
  obtain ⟨c0, c1, rfl⟩ := two hl
  obtain ⟨n2, hf⟩ := open_fields Try.underlying25 h hw
  obtain ⟨z0, t0, w0⟩ := hf 0 _ rfl
  obtain ⟨z1, t1, w1⟩ := hf 1 _ rfl
  obtain ⟨x, rfl, hx⟩ := t_str (take_fix t0 c_str) w0
  obtain ⟨m, rfl, hm⟩ := t_int64 (take_fix t1 c_int64)
  exact ⟨⟨x, m⟩, rfl, hx, hm⟩
theorem t_vals {c : Value} (h : Tr enc w n 23 [c] y) (hw : Wt 23 y.1) : ∃ l : List Vl, Vls 0 w.heap.size w c l ∧ ∀ a ∈ l, vlG a :=
  open_row (bts := 24) Try.underlying23 c_val (by decide) (by kernel_rfl) (by decide) h hw fun _ _ _ hl h hw => t_val hl h hw
theorem t_obj (hl : cs.length = 2) (h : Tr enc w n 33 cs y) (hw : Wt 33 y.1) : ∃ a : Ob, ObC 0 w.heap.size w cs a ∧ obG a := by
  obtain ⟨c0, c1, rfl⟩ := two hl
  obtain ⟨n2, hf⟩ := open_fields Try.underlying33 h hw
  obtain ⟨z0, t0, w0⟩ := hf 0 _ rfl
  obtain ⟨z1, t1, w1⟩ := hf 1 _ rfl
  obtain ⟨x, rfl, hx⟩ := t_str (take_fix t0 c_str) w0
  obtain ⟨l, h1, h2⟩ := t_vals (take_fix t1 c_vals) w1
  exact ⟨⟨x, l⟩, ⟨_, rfl, h1⟩, hx, h2⟩
set_option maxRecDepth 100000 in
theorem open_vals {ts : List TypeId} {ds : List (DataW H)} (hsz : (DataW.weightsEach Try.prog ts ds).all (· ≤ reachBytes) = true) {j : Nat} {v : Value} {d : DataW H} {p : List MemPlace} (ht : ts[j]? = some 23) (hd : ds[j]? = some d)
    {base : Nat} {r : Reach} (hval : Value.okWide Try.prog w r base 23 v) (h : DataW.Trod enc Try.prog w 0 (fun _ => true) true 23 v d p) : ∃ l : List Vl, Vls 0 w.heap.size w v l ∧ ∀ a ∈ l, vlG a := by
  obtain ⟨a0, len0, cap0, rfl⟩ := okWide_slice Try.underlying23 hval
  obtain ⟨fuel, h⟩ := h
  have hw : Wt 23 d := fun m hm => by
    have := List.all_eq_true.1 hsz m (DataW.weights_mem_each ht hd m hm)
    simpa using this
  exact t_vals (show Tr enc w fuel 23 [.slice a0 len0 cap0] (d, p) from by simpa [Value.cells] using h) hw
set_option maxRecDepth 100000 in
theorem open_heap {ts : List TypeId} {ds : List (DataW H)} (hsz : (DataW.weightsEach Try.prog ts ds).all (· ≤ reachBytes) = true) {j : Nat} {v : Value} {d : DataW H} {p : List MemPlace} (ht : ts[j]? = some 22) (hd : ds[j]? = some d)
    {base : Nat} {r : Reach} (hval : Value.okWide Try.prog w r base 22 v) (h : DataW.Trod enc Try.prog w 0 (fun _ => true) true 22 v d p) : ∃ l : Hp, Obs 0 w.heap.size w v l ∧ hpG l := by
  obtain ⟨a0, len0, cap0, rfl⟩ := okWide_slice Try.underlying22 hval
  obtain ⟨fuel, h⟩ := h
  have hw : Wt 22 d := fun m hm => by
    have := List.all_eq_true.1 hsz m (DataW.weights_mem_each ht hd m hm)
    simpa using this
  exact open_row (bts := 40) Try.underlying22 c_obj (by decide) (by kernel_rfl) (by decide) (show Tr enc w fuel 22 [.slice a0 len0 cap0] (d, p) from by simpa [Value.cells] using h) hw fun _ _ _ hl h hw => t_obj hl h hw
set_option maxRecDepth 100000 in
theorem open_val {ts : List TypeId} {ds : List (DataW H)} (hsz : (DataW.weightsEach Try.prog ts ds).all (· ≤ reachBytes) = true) {j : Nat} {v : Value} {d : DataW H} {p : List MemPlace} (ht : ts[j]? = some 25) (hd : ds[j]? = some d)
    {base : Nat} {r : Reach} (hval : Value.okWide Try.prog w r base 25 v) (h : DataW.Trod enc Try.prog w 0 (fun _ => true) true 25 v d p) : ∃ q : Vl, v = vlA q ∧ vlG q := by
  obtain ⟨cs, rfl, hs⟩ := okWide_struct Try.underlying25 hval
  obtain ⟨fuel, h⟩ := h
  have hw : Wt 25 d := fun m hm => by
    have := List.all_eq_true.1 hsz m (DataW.weights_mem_each ht hd m hm)
    simpa using this
  obtain ⟨q, h1, h2⟩ := t_val (cs := cs.toList) (by rw [Array.length_toList, hs]; exact c_val) (show Tr enc w fuel 25 cs.toList (d, p) from h) hw
  refine ⟨q, ?_, h2⟩
  have : cs = #[str q.ty, i64 q.n] := by
    apply Array.ext'
    rw [h1]; rfl
  rw [this]
end Go.Proofs.Ytclikfeaodfmkaa.OpenH
