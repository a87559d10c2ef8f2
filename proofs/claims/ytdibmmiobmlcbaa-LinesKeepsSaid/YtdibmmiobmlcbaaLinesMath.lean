/-
  Layer 4's plain facts: what a text's lines are, byte by byte, and line by line. No program is named here.
-/
namespace Go.Proofs.Ytdibmmiobmlcbaa.LinesM

abbrev Wd := List UInt8
/-- A line: its number and its words. -/
abbrev Ln := Nat × List Wd

/-- What a byte is to its line. -/
def kindB (c : UInt8) : Int := if c = 32 ∨ c = 9 then 1 else if c = 59 then 2 else if 33 ≤ c.toNat ∧ c.toNat ≤ 126 then 0 else 3
/-- How many bytes ahead are of kind k. -/
def run (k : Int) (l : List UInt8) : Nat := (l.takeWhile fun c => kindB c == k).length

/-- Within a line: the words, the word that is begun, whether a remark is on, whether something stood that may not. -/
structure LS where
  l : List Wd
  w : Wd
  rem : Bool
  bad : Bool
def LS.init : LS := ⟨[], [], false, false⟩
def push (l : List Wd) (w : Wd) : List Wd := if w = [] then l else l ++ [w]
def strayB (c : UInt8) : Bool := decide ((c.toNat : Int) < 33) || decide (126 < (c.toNat : Int))
def lstep (t : LS) (c : UInt8) : LS :=
  if t.rem = true ∨ c = 59 then ⟨push t.l t.w, [], true, t.bad⟩
  else if c = 32 ∨ c = 9 then ⟨push t.l t.w, [], false, t.bad⟩
  else ⟨t.l, t.w ++ [c], false, t.bad || strayB c⟩
def emit (n : Nat) (out : List Ln) (l : List Wd) : List Ln := if l = [] then out else out ++ [(n, l)]
/-- The lines, the number that is told, and why not. -/
abbrev Res := List Ln × Nat × Nat
def go (n : Nat) (out : List Ln) (t : LS) : List UInt8 → Res
  | [] => if t.bad then ([], n, 3) else (emit n out (push t.l t.w), 0, 0)
  | c :: cs => if c = 10 then (if t.bad then ([], n, 3) else go (n + 1) (emit n out (push t.l t.w)) LS.init cs) else go n out (lstep t c) cs
def splitV (l : List UInt8) : Res := if 4194304 < l.length then ([], 0, 2) else go 1 [] LS.init l

/-! ### runs -/
theorem run_nil (k : Int) : run k [] = 0 := rfl
theorem run_le (k : Int) (l : List UInt8) : run k l ≤ l.length := List.IsPrefix.length_le (List.takeWhile_prefix _)
theorem run_cons_yes {k : Int} {c : UInt8} {l : List UInt8} (h : kindB c = k) : run k (c :: l) = run k l + 1 := by
  unfold run; rw [List.takeWhile_cons_of_pos (by simp [h])]; simp
theorem run_cons_no {k : Int} {c : UInt8} {l : List UInt8} (h : kindB c ≠ k) : run k (c :: l) = 0 := by
  unfold run; rw [List.takeWhile_cons_of_neg (by simp [h])]; rfl

/-! ### the program's way: line by line, and by places in a line -/
/-- What stands ahead of a line feed. -/
def seg (l : List UInt8) : List UInt8 := l.takeWhile fun c => c != 10
theorem seg_le (l : List UInt8) : (seg l).length ≤ l.length := List.IsPrefix.length_le (List.takeWhile_prefix _)

/-- A line's end, or a remark? -/
def endB : List UInt8 → Bool
  | [] => true
  | c :: _ => kindB c == 2
def words (l : List UInt8) : List Wd × Bool :=
  if _h : run 0 l = 0 then ([], endB l)
  else
    let r := l.drop (run 0 l)
    let q := words (r.drop (run 1 r))
    (l.take (run 0 l) :: q.1, q.2)
termination_by l.length
decreasing_by simp; have := run_le 0 l; omega
def cutV (l : List UInt8) : List Wd × Bool := words (l.drop (run 1 l))

def splitP (n : Nat) (out : List Ln) (l : List UInt8) : Res :=
  if h : l = [] then (out, 0, 0)
  else
    let q := cutV (seg l)
    if q.2 = true then splitP (n + 1) (emit n out q.1) (l.drop ((seg l).length + 1)) else ([], n, 3)
termination_by l.length
decreasing_by
  have : 0 < l.length := List.length_pos_iff.2 h
  simp; omega

/-! ### both ways tell the same -/
theorem lstep_rem {t : LS} (h : t.rem = true) (hw : t.w = []) (c : UInt8) : lstep t c = t := by
  obtain ⟨l, w, r, b⟩ := t
  simp only at h hw
  subst h hw
  simp [lstep, push]

/-- a remark: nothing turns till the line's end. -/
theorem fold_rem (l : List Wd) (b : Bool) (s : List UInt8) : s.foldl lstep ⟨l, [], true, b⟩ = ⟨l, [], true, b⟩ := by
  induction s with
  | nil => rfl
  | cons c s ih => rw [List.foldl_cons, lstep_rem rfl rfl]; exact ih

theorem lstep_bad (t : LS) (c : UInt8) (h : t.bad = true) : (lstep t c).bad = true := by
  unfold lstep; split
  · exact h
  · split
    · exact h
    · simp [h]
theorem fold_bad (s : List UInt8) : ∀ (t : LS), t.bad = true → (s.foldl lstep t).bad = true := by
  induction s with
  | nil => exact fun t h => h
  | cons c s ih => exact fun t h => ih _ (lstep_bad t c h)

/-- what a line's bytes make of the walk by lines. -/
theorem go_seg (s : List UInt8) : ∀ (n : Nat) (out : List Ln) (t : LS) (rest : List UInt8), (∀ c ∈ s, c ≠ 10) → go n out t (s ++ rest) = go n out (s.foldl lstep t) rest := by
  induction s with
  | nil => intro n out t rest _; rfl
  | cons c s ih =>
    intro n out t rest h
    have hc : c ≠ 10 := h c (by simp)
    rw [List.cons_append, go, if_neg hc, List.foldl_cons]
    exact ih n out _ rest fun d hd => h d (by simp [hd])

theorem kind_gap {c : UInt8} (h : kindB c = 1) : c = 32 ∨ c = 9 := by
  unfold kindB at h; split at h
  · assumption
  · split at h
    · cases h
    · split at h <;> cases h
theorem kind_rem {c : UInt8} (h : kindB c = 2) : c = 59 := by
  unfold kindB at h; split at h
  · cases h
  · split at h
    · assumption
    · split at h <;> cases h
theorem kind_part {c : UInt8} (h : kindB c = 0) : c ≠ 59 ∧ c ≠ 32 ∧ c ≠ 9 ∧ strayB c = false := by
  unfold kindB at h; split at h
  · cases h
  · rename_i h1; split at h
    · cases h
    · rename_i h2; split at h
      · rename_i h3
        refine ⟨h2, fun e => h1 (.inl e), fun e => h1 (.inr e), ?_⟩
        simp [strayB]; omega
      · cases h
theorem kind_stray {c : UInt8} (h0 : kindB c ≠ 0) (h1 : kindB c ≠ 1) (h2 : kindB c ≠ 2) : c ≠ 59 ∧ c ≠ 32 ∧ c ≠ 9 ∧ strayB c = true := by
  unfold kindB at h0 h1 h2
  by_cases g1 : c = 32 ∨ c = 9
  · simp [g1] at h1
  · rw [if_neg g1] at h0 h1 h2
    by_cases g2 : c = 59
    · simp [g2] at h2
    · rw [if_neg g2] at h0 h1 h2
      by_cases g3 : 33 ≤ c.toNat ∧ c.toNat ≤ 126
      · simp [g3] at h0
      · refine ⟨g2, fun e => g1 (.inl e), fun e => g1 (.inr e), ?_⟩
        simp [strayB]; omega

theorem lstep_gap {l : List Wd} {b : Bool} {w : Wd} {c : UInt8} (h : kindB c = 1) : lstep ⟨l, w, false, b⟩ c = ⟨push l w, [], false, b⟩ := by
  have := kind_gap h
  have h59 : c ≠ 59 := by intro e; subst e; rcases this with e | e <;> cases e
  unfold lstep
  rw [if_neg (by simp [h59]), if_pos this]
theorem lstep_part {l : List Wd} {b : Bool} {w : Wd} {c : UInt8} (h : kindB c = 0) : lstep ⟨l, w, false, b⟩ c = ⟨l, w ++ [c], false, b⟩ := by
  obtain ⟨h1, h2, h3, h4⟩ := kind_part h
  unfold lstep
  rw [if_neg (by simp [h1]), if_neg (by simp [h2, h3]), h4]
  simp

/-- gaps mean nothing where no word is begun. -/
theorem fold_gaps (s : List UInt8) (l : List Wd) (b : Bool) : s.foldl lstep ⟨l, [], false, b⟩ = (s.drop (run 1 s)).foldl lstep ⟨l, [], false, b⟩ := by
  induction s with
  | nil => rfl
  | cons c s ih =>
    by_cases h : kindB c = 1
    · rw [run_cons_yes h, List.foldl_cons, lstep_gap h, List.drop_succ_cons]
      simpa [push] using ih
    · rw [run_cons_no h, List.drop_zero]
/-- a word's bytes. -/
theorem fold_part (s : List UInt8) (l : List Wd) (b : Bool) : ∀ (w : Wd), s.foldl lstep ⟨l, w, false, b⟩ = (s.drop (run 0 s)).foldl lstep ⟨l, w ++ s.take (run 0 s), false, b⟩ := by
  induction s with
  | nil => intro w; simp [run_nil]
  | cons c s ih =>
    intro w
    by_cases h : kindB c = 0
    · rw [run_cons_yes h, List.foldl_cons, lstep_part h, List.drop_succ_cons, List.take_succ_cons, ih]
      simp
    · rw [run_cons_no h, List.drop_zero, List.take_zero, List.append_nil]

theorem run_drop (k : Int) (s : List UInt8) : run k (s.drop (run k s)) = 0 := by
  induction s with
  | nil => rfl
  | cons c s ih =>
    by_cases h : kindB c = k
    · rw [run_cons_yes h, List.drop_succ_cons]; exact ih
    · rw [run_cons_no h, List.drop_zero, run_cons_no h]

/-- A gap behind a word, or a line's end, ends the word. -/
theorem fold_end (s : List UInt8) (l : List Wd) (b : Bool) (w : Wd) (h0 : run 0 s = 0) :
    ((s.foldl lstep ⟨l, w, false, b⟩).bad = ((s.drop (run 1 s)).foldl lstep ⟨push l w, [], false, b⟩).bad) ∧
      ((s.foldl lstep ⟨l, w, false, b⟩).bad = false → push (s.foldl lstep ⟨l, w, false, b⟩).l (s.foldl lstep ⟨l, w, false, b⟩).w = push ((s.drop (run 1 s)).foldl lstep ⟨push l w, [], false, b⟩).l ((s.drop (run 1 s)).foldl lstep ⟨push l w, [], false, b⟩).w) := by
  cases s with
  | nil => by_cases hw : w = [] <;> simp [run_nil, push, hw]
  | cons c s =>
    by_cases h1 : kindB c = 1
    · rw [run_cons_yes h1, List.foldl_cons, lstep_gap h1, List.drop_succ_cons, ← fold_gaps]
      exact ⟨rfl, fun _ => rfl⟩
    · rw [run_cons_no h1, List.drop_zero]
      by_cases h2 : kindB c = 2
      · have := kind_rem h2
        subst this
        have e : ∀ l w, lstep ⟨l, w, false, b⟩ 59 = ⟨push l w, [], true, b⟩ := fun l w => by simp [lstep]
        rw [List.foldl_cons, List.foldl_cons, e, e, fold_rem, fold_rem]
        simp [push]
      · have hk0 : kindB c ≠ 0 := by
          intro e; rw [run_cons_yes e] at h0; omega
        obtain ⟨g1, g2, g3, g4⟩ := kind_stray hk0 h1 h2
        have e : ∀ l w, (lstep ⟨l, w, false, b⟩ c).bad = true := fun l w => by
          unfold lstep; rw [if_neg (by simp [g1]), if_neg (by simp [g2, g3]), g4]; simp
        rw [List.foldl_cons, List.foldl_cons]
        have b1 := fold_bad s _ (e l w)
        have b2 := fold_bad s _ (e (push l w) [])
        exact ⟨b1.trans b2.symm, fun h => by rw [b1] at h; cases h⟩

/-- A line's bytes, gaps ahead gone, as words. -/
theorem fold_words (k : Nat) : ∀ (s : List UInt8) (l : List Wd), s.length ≤ k → run 1 s = 0 →
    (s.foldl lstep ⟨l, [], false, false⟩).bad = !(words s).2 ∧
      ((words s).2 = true → push (s.foldl lstep ⟨l, [], false, false⟩).l (s.foldl lstep ⟨l, [], false, false⟩).w = l ++ (words s).1) := by
  induction k with
  | zero =>
    intro s l hk _
    have : s = [] := List.eq_nil_of_length_eq_zero (by omega)
    subst this
    rw [words]; simp [run_nil, push, endB]
  | succ k ih =>
    intro s l hk h1
    by_cases h0 : run 0 s = 0
    · rw [words, dif_pos h0]
      cases s with
      | nil => simp [push, endB]
      | cons c s =>
        have hk0 : kindB c ≠ 0 := by intro e; rw [run_cons_yes e] at h0; omega
        have hk1 : kindB c ≠ 1 := by intro e; rw [run_cons_yes e] at h1; omega
        by_cases h2 : kindB c = 2
        · have := kind_rem h2
          subst this
          have e : lstep ⟨l, [], false, false⟩ 59 = ⟨l, [], true, false⟩ := by simp [lstep, push]
          rw [List.foldl_cons, e, fold_rem]
          simp [push, h2, endB]
        · obtain ⟨g1, g2, g3, g4⟩ := kind_stray hk0 hk1 h2
          have e : (lstep ⟨l, [], false, false⟩ c).bad = true := by
            unfold lstep; rw [if_neg (by simp [g1]), if_neg (by simp [g2, g3]), g4]; simp
          rw [List.foldl_cons, fold_bad s _ e]
          simp [h2, endB]
    · have hw : (s.take (run 0 s)) ≠ [] := by
        intro e
        have h2 := congrArg List.length e
        rw [List.length_take, List.length_nil] at h2
        have := run_le 0 s
        omega
      rw [words, dif_neg h0]
      simp only
      have hf := fold_part s l false []
      rw [List.nil_append] at hf
      rw [hf]
      have he := fold_end (s.drop (run 0 s)) l false (s.take (run 0 s)) (run_drop 0 s)
      have hp : push l (s.take (run 0 s)) = l ++ [s.take (run 0 s)] := by unfold push; rw [if_neg hw]
      rw [hp] at he
      obtain ⟨i1, i2⟩ := ih ((s.drop (run 0 s)).drop (run 1 (s.drop (run 0 s)))) (l ++ [s.take (run 0 s)]) (by rw [List.length_drop, List.length_drop]; omega) (run_drop 1 _)
      refine ⟨he.1.trans i1, fun h => ?_⟩
      rw [he.2 (by rw [he.1, i1, h]; rfl), i2 h]
      simp

theorem fold_cut (s : List UInt8) : (s.foldl lstep LS.init).bad = !(cutV s).2 ∧ ((cutV s).2 = true → push (s.foldl lstep LS.init).l (s.foldl lstep LS.init).w = (cutV s).1) := by
  unfold LS.init
  rw [fold_gaps]
  have h := fold_words _ (s.drop (run 1 s)) [] (Nat.le_refl _) (run_drop 1 s)
  unfold cutV
  exact ⟨h.1, fun e => by rw [h.2 e]; simp⟩

theorem seg_split (l : List UInt8) (h : l ≠ []) : l = seg l ∧ l.drop ((seg l).length + 1) = [] ∨ l = seg l ++ 10 :: l.drop ((seg l).length + 1) := by
  induction l with
  | nil => exact absurd rfl h
  | cons c l ih =>
    by_cases hc : c = 10
    · subst hc
      right
      simp [seg]
    · have e : seg (c :: l) = c :: seg l := by unfold seg; rw [List.takeWhile_cons_of_pos (by simp [hc])]
      rw [e]
      by_cases hl : l = []
      · subst hl; left; simp [seg]
      · rcases ih hl with ⟨i1, i2⟩ | i
        · left
          exact ⟨by rw [← i1], by simpa using i2⟩
        · right
          rw [List.cons_append, List.length_cons, List.drop_succ_cons, ← i]

theorem seg_no (l : List UInt8) : ∀ c ∈ seg l, c ≠ 10 := by
  intro c hc
  have : (seg l).all (fun c => c != 10) = true := by unfold seg; exact List.all_takeWhile
  simpa using List.all_eq_true.1 this c hc

theorem split_same (k : Nat) : ∀ (l : List UInt8) (n : Nat) (out : List Ln), l.length ≤ k → splitP n out l = go n out LS.init l := by
  induction k with
  | zero =>
    intro l n out hk
    have : l = [] := List.eq_nil_of_length_eq_zero (by omega)
    subst this
    rw [splitP]; simp [go, LS.init, push, emit]
  | succ k ih =>
    intro l n out hk
    by_cases h : l = []
    · subst h; rw [splitP]; simp [go, LS.init, push, emit]
    · rw [splitP, dif_neg h]
      simp only
      obtain ⟨f1, f2⟩ := fold_cut (seg l)
      have hpos := List.length_pos_iff.2 h
      rcases seg_split l h with ⟨e, hd⟩ | e
      · have hg := go_seg (seg l) n out LS.init [] (seg_no l)
        rw [List.append_nil] at hg
        rw [← e] at hg
        rw [hg, go]
        rw [← e] at f1 f2 ⊢
        by_cases hq : (cutV l).2 = true
        · rw [if_pos hq, f1, hq, f2 hq]
          have hd' : l.drop (l.length + 1) = [] := by simp
          rw [hd', splitP]
          simp
        · rw [if_neg hq, f1]
          have : (cutV l).2 = false := by simpa using hq
          rw [this]; simp
      · have hg := go_seg (seg l) n out LS.init (10 :: l.drop ((seg l).length + 1)) (seg_no l)
        rw [← e] at hg
        rw [hg, go, if_pos rfl]
        by_cases hq : (cutV (seg l)).2 = true
        · rw [if_pos hq, f1, hq, f2 hq, ih _ _ _ (by simp; omega)]
          simp
        · have : (cutV (seg l)).2 = false := by simpa using hq
          rw [if_neg hq, f1, this]; simp

theorem split_eq (l : List UInt8) : splitP 1 [] l = go 1 [] LS.init l := split_same _ l 1 [] (Nat.le_refl _)

end Go.Proofs.Ytdibmmiobmlcbaa.LinesM
