/-
  Layer 12: the document's list of what an instruction uses.
-/
import Derived.Test.YtaeklfljibjpiaaLvRef
namespace Go.Proofs.Ytaeklfljibjpiaa.Lv12
open Go.RowKit Api Mem Sh8 Go.Maps

def addV (r : List Wd) (a : Arg) : List Wd := if a.kind = 1 then putV r a.s else r
/-- r is the names of N, rising. -/
structure RS (r N : List Wd) : Prop where
  up : Rise r
  mem : ∀ x, x ∈ r ↔ x ∈ N
theorem RS.nil : RS [] [] := ⟨⟨List.nodup_nil, List.Pairwise.nil⟩, fun x => Iff.rfl⟩
theorem RS.add {r N : List Wd} (h : RS r N) (a : Arg) : RS (addV r a) (N ++ namesA [a]) := by
  unfold addV
  by_cases e : a.kind = 1
  · rw [if_pos e]
    refine ⟨putV_rise h.up _, fun x => ?_⟩
    rw [putV_mem, h.mem x, List.mem_append]
    simp [namesA, e]
  · rw [if_neg e]
    refine ⟨h.up, fun x => ?_⟩
    rw [h.mem x, List.mem_append]
    simp [namesA, e]
theorem RS.len {r N : List Wd} (h : RS r N) : r.length ≤ N.length := sub_len h.up.nd fun x hx => (h.mem x).1 hx
theorem take_mem {α : Type} {l : List α} {k : Nat} {x : α} (h : x ∈ l.take k) : x ∈ l := List.mem_of_mem_take h
theorem namesA_le (l : List Arg) (k : Nat) : (namesA (l.take k)).length ≤ (namesA l).length := by
  have : namesA l = namesA (l.take k) ++ namesA (l.drop k) := by rw [← namesA_app, List.take_append_drop]
  rw [this, List.length_append]
  omega
theorem namesB_le (l : List Bind) (k : Nat) : (namesB (l.take k)).length ≤ (namesB l).length := by
  unfold namesB
  rw [List.map_take]
  exact namesA_le _ _
theorem namesF_le (l : List Api.Frame) (k : Nat) : (namesF (l.take k)).length ≤ (namesF l).length := by
  have : namesF l = namesF (l.take k) ++ namesF (l.drop k) := by unfold namesF; rw [← List.flatMap_append, List.take_append_drop]
  rw [this, List.length_append]
  omega
theorem namesO_le (l : List Virt) (k : Nat) : (namesO (l.take k)).length ≤ (namesO l).length := by
  have : namesO l = namesO (l.take k) ++ namesO (l.drop k) := by unfold namesO; rw [← List.flatMap_append, List.take_append_drop]
  rw [this, List.length_append]
  omega
theorem names_le1 (x : Instr) (k : Nat) : (namesA (x.args.take k)).length ≤ (usesI x).length := by
  have := namesA_le x.args k
  unfold usesI
  simp only [List.length_append]
  omega
theorem names_le2 (x : Instr) {k : Nat} {y : Api.Frame} (hy : x.frames[k]? = some y) (j : Nat) : (namesA x.args ++ namesF (x.frames.take k) ++ namesB (y.vars.take j)).length ≤ (usesI x).length := by
  have h1 := namesB_le y.vars j
  have h2 := namesF_le x.frames (k + 1)
  rw [namesF_next hy] at h2
  unfold usesI
  simp only [List.length_append] at *
  omega
theorem names_le3 (x : Instr) {k : Nat} {y : Virt} (hy : x.objs[k]? = some y) (j : Nat) : (namesA x.args ++ namesF x.frames ++ namesO (x.objs.take k) ++ namesA (y.vals.take j)).length ≤ (usesI x).length := by
  have h1 := namesA_le y.vals j
  have h2 := namesO_le x.objs (k + 1)
  rw [namesO_next hy] at h2
  unfold usesI
  simp only [List.length_append] at *
  omega
end Go.Proofs.Ytaeklfljibjpiaa.Lv12
