/-
  The text of lines: plain facts. No program is named here.
-/
import Derived.Test.YtdibmmiobmlcbaaLinesMath
namespace Go.Proofs.Ytdibmmiobmlcbaa.LinesM

/-- The words of a line, one blank between them. -/
def lineJ : List Wd → List UInt8
  | [] => []
  | w :: ws => w ++ ws.flatMap fun x => 32 :: x
/-- The text of lines. -/
def joinV (L : List (List Wd)) : List UInt8 := L.flatMap fun ws => lineJ ws ++ [10]

theorem lineJ_first (x : Wd) : lineJ [x] = x := by simp [lineJ]
theorem lineJ_next {ws : List Wd} (h : ws ≠ []) (x : Wd) : lineJ (ws ++ [x]) = lineJ ws ++ [32] ++ x := by
  cases ws with
  | nil => exact absurd rfl h
  | cons w ws => simp [lineJ]
theorem lineJ_le (a b : List Wd) : (lineJ a).length ≤ (lineJ (a ++ b)).length := by
  cases a with
  | nil => simp [lineJ]
  | cons w a => simp [lineJ]
theorem joinV_next {L : List (List Wd)} {k : Nat} {ws : List Wd} (h : L[k]? = some ws) : joinV (L.take (k + 1)) = joinV (L.take k) ++ lineJ ws ++ [10] := by
  obtain ⟨hk, rfl⟩ := List.getElem?_eq_some_iff.1 h
  rw [List.take_succ_eq_append_getElem hk]
  unfold joinV
  rw [List.flatMap_append, List.flatMap_cons, List.flatMap_nil, List.append_nil, List.append_assoc]
theorem joinV_le (L : List (List Wd)) (k : Nat) : (joinV (L.take k)).length ≤ (joinV L).length := by
  conv => rhs; rw [← List.take_append_drop k L]
  unfold joinV
  rw [List.flatMap_append, List.length_append]
  omega
theorem part_le {L : List (List Wd)} {k q : Nat} {ws : List Wd} (h : L[k]? = some ws) : (joinV (L.take k)).length + (lineJ (ws.take q)).length + 1 ≤ (joinV L).length := by
  have h1 := joinV_le L (k + 1)
  rw [joinV_next h] at h1
  have h2 := lineJ_le (ws.take q) (ws.drop q)
  rw [List.take_append_drop] at h2
  simp at h1
  omega
theorem take_next {α : Type} {l : List α} {k : Nat} {x : α} (h : l[k]? = some x) : l.take (k + 1) = l.take k ++ [x] := by
  obtain ⟨hk, rfl⟩ := List.getElem?_eq_some_iff.1 h
  exact List.take_succ_eq_append_getElem hk
theorem lineJ_step {ws : List Wd} {q : Nat} {x : Wd} (h : ws[q]? = some x) (h0 : 0 < q) : lineJ (ws.take (q + 1)) = lineJ (ws.take q) ++ [32] ++ x := by
  rw [take_next h, lineJ_next]
  have hq := (List.getElem?_eq_some_iff.1 h).1
  intro e
  have := congrArg List.length e
  rw [List.length_take, List.length_nil] at this
  omega
theorem lineJ_step0 {ws : List Wd} {x : Wd} (h : ws[0]? = some x) : lineJ (ws.take (0 + 1)) = lineJ (ws.take 0) ++ x := by
  rw [take_next h, List.take_zero, List.nil_append, lineJ_first]; rfl
end Go.Proofs.Ytdibmmiobmlcbaa.LinesM
