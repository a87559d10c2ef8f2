/-
  Layer 10: the document's Kids walked.
-/
import Derived.Test.YtiohngbmddfgfaaFlPreds
namespace Go.Proofs.Ytiohngbmddfgfaa.Dm10
open Go.RowKit Api Mem Fl9

/-- those below k whose nearest one is i, rising. -/
def kv (near : List Int) (k i : Nat) : List Int := ((List.range k).filter fun p => decide (near[p]? = some (i : Int))).map fun (p : Nat) => (p : Int)
def kidsV (near : List Int) : List (List Int) := (List.range near.length).map (kv near near.length)
theorem kv_step {near : List Int} {k i : Nat} {x : Int} (h : near[k]? = some x) : kv near (k + 1) i = kv near k i ++ if x = (i : Int) then [(k : Int)] else [] := by
  unfold kv
  rw [List.range_succ, List.filter_append, List.map_append]
  congr 1
  by_cases e : x = (i : Int)
  · rw [if_pos e, List.filter_cons_of_pos (by simp [h, e])]; rfl
  · rw [if_neg e, List.filter_cons_of_neg (by simp [h, e])]; rfl
theorem kv_len (near : List Int) (k i : Nat) : (kv near k i).length ≤ k := by
  unfold kv
  rw [List.length_map]
  have := List.length_filter_le (fun p => decide (near[p]? = some (i : Int))) (List.range k)
  rwa [List.length_range] at this
theorem kids_len (near : List Int) : (kidsV near).length = near.length := by simp [kidsV]
theorem kids_at {near : List Int} {i : Nat} (h : i < near.length) : (kidsV near)[i]? = some (kv near near.length i) := by
  unfold kidsV
  rw [List.getElem?_map, List.getElem?_range h]; rfl
theorem kids_take {near : List Int} {k : Nat} (h : k < near.length) : (kidsV near).take (k + 1) = (kidsV near).take k ++ [kv near near.length k] := by
  obtain ⟨h3, h4⟩ := List.getElem?_eq_some_iff.1 (kids_at h)
  rw [List.take_succ_eq_append_getElem h3, h4]
theorem kids_takel {near : List Int} {k : Nat} (h : k ≤ near.length) : ((kidsV near).take k).length = k := by
  rw [List.length_take, kids_len]; omega
end Go.Proofs.Ytiohngbmddfgfaa.Dm10
