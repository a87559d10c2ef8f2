/-
  Package syntax: a line, whatever its words.
-/
import Derived.Test.YtkfpcaganhmkcaaDoorLine3
namespace Go.Proofs.YtkfpcaganhmkcaaDoor.Rd5
open Go.RowKit Api Hold Mem Syn WordM Tree Go.Maps

variable {w w' w1 w2 : World} {lo hi rb base N : Nat} {rc : RC} {v : Value} {l ws : List Wd} {row : Option Nat} {a : Tree.Act} {D D2 : List Rec} {p : Prog} {L T : Rec}
theorem line_any {x : Wd} {lv : Value} {mb : Nat} {ws0 : List Wd} (h : St w base rb lo hi rc a D p N ws0) (hov : rc.over = false) (hN : N < 1073741824) (hlg : 0 ≤ rc.long ∧ rc.long ≤ 1000000) (hL : LaidS w) (hr : 0 < rb) (hF : Fits p rc.place)
    (hW : Ws lo hi w lv (x :: l)) (hlen : (x :: l).length ≤ 4194304) (hm : w.ownsMap Tryd.prog 9 fnElem mb 20 tabD) (hmb : mb ≠ rb) :
    Calls Tryd.prog 58 #[ptr rb, lv, .map (some mb)] w (LineP base rb lo hi (N + 1) w (lineE (lineO p rc.place rc.long x l))) := by
  obtain ⟨A, n, cap, b, off, rfl, hn, hc, hmx, ha, hw, hs⟩ := hW
  obtain ⟨rfl, hb1, hb2⟩ := ha (by rw [hn]; simp)
  by_cases h1 : cap = 1
  · cases l with
    | nil => exact line_one h hov hN hlg hL hr hF hn hc hmx h1 hb1 hb2 hw hs hlen hm hmb
    | cons y l => exfalso; simp at hn; omega
  · have h2 : 1 < cap := by simp at hn; omega
    cases l with
    | nil => exact line_nil h hov hN hlg hL hr hF hn hc hmx h2 hb1 hb2 hw hs hlen hm hmb
    | cons y l =>
      by_cases hy : y = [61]
      · exact line_eq h hov hN hlg hL hr hF hn hc hmx h2 hb1 hb2 hw hs hlen hm hmb hy
      · exact line_ne h hov hN hlg hL hr hF hn hc hmx h2 hb1 hb2 hw hs hlen hm hmb hy
/-- Lines, one behind the other: the state; or the line's number and the error. -/
def readE : Prog × Int × Int → List (Nat × List Wd) → Except (Nat × Int) (Prog × Int × Int)
  | s, [] => .ok s
  | s, (k, ws) :: l => match lineE (lineO s.1 s.2.1 s.2.2 (ws.headD []) ws.tail) with
    | .error e => .error (k, e)
    | .ok s' => readE s' l
/-- A text's lines: the program; or a line's number and the error. -/
def parseE (l : List (Nat × List Wd)) : Except (Nat × Int) Prog := match readE (⟨false, [], [], [], []⟩, 1, 0) l with
  | .error e => .error e
  | .ok (p, pl, _) => if stB pl 519 = true then .ok p else .error (0, 3)
theorem readE_snoc (s : Prog × Int × Int) (l : List (Nat × List Wd)) (x : Nat × List Wd) : readE s (l ++ [x]) = match readE s l with
    | .error e => .error e
    | .ok s' => readE s' [x] := by
  induction l generalizing s with
  | nil => rfl
  | cons y l ih =>
    obtain ⟨k, ws⟩ := y
    simp only [List.cons_append, readE]
    cases lineE (lineO s.1 s.2.1 s.2.2 (ws.headD []) ws.tail) with
    | error e => rfl
    | ok s' => exact ih s'
end Go.Proofs.YtkfpcaganhmkcaaDoor.Rd5
