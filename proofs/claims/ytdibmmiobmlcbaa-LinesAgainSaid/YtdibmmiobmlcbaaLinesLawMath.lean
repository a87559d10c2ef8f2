/-
  What the laws of layer 4 say, plainly: numbers rise; words are clean; lines written are read again; blanks and remarks mean nothing; a text behind another one. No program is named here.
-/
import Derived.Test.YtdibmmiobmlcbaaLinesJoinMath
namespace Go.Proofs.Ytdibmmiobmlcbaa.LinesM

/-- How many line feeds. -/
def feeds (l : List UInt8) : Nat := (l.filter fun c => c == 10).length
theorem feeds_cons (c : UInt8) (l : List UInt8) : feeds (c :: l) = (if c = 10 then 1 else 0) + feeds l := by
  unfold feeds
  by_cases h : c = 10
  · rw [List.filter_cons_of_pos (by simp [h]), if_pos h]; simp; omega
  · rw [List.filter_cons_of_neg (by simp [h]), if_neg h]; omega
theorem feeds_le (l : List UInt8) : feeds l ≤ l.length := List.length_filter_le _ _

def clean (w : Wd) : Prop := w ≠ [] ∧ ∀ c ∈ w, kindB c = 0
/-- Numbers rise from lo on, up to hi; each line has words, which are clean. -/
def Rise (lo hi : Nat) : List Ln → Prop
  | [] => True
  | x :: L => lo ≤ x.1 ∧ x.1 ≤ hi ∧ x.2 ≠ [] ∧ (∀ w ∈ x.2, clean w) ∧ Rise (x.1 + 1) hi L
theorem Rise.wide {L : List Ln} : ∀ {lo hi lo' hi' : Nat}, Rise lo hi L → lo' ≤ lo → hi ≤ hi' → Rise lo' hi' L := by
  induction L with
  | nil => intros; trivial
  | cons x L ih => intro lo hi lo' hi' ⟨h1, h2, h3, h4, h5⟩ hl hh; exact ⟨by omega, by omega, h3, h4, ih h5 (Nat.le_refl _) hh⟩

/-- This line's words are clean, as long as nothing stray stood. -/
def Tidy (t : LS) : Prop := t.bad = false → (∀ w ∈ t.l, clean w) ∧ ∀ c ∈ t.w, kindB c = 0
theorem Tidy.init : Tidy LS.init := fun _ => ⟨(fun _ h => by cases h), (fun _ h => by cases h)⟩
theorem push_clean {l : List Wd} {w : Wd} (h1 : ∀ x ∈ l, clean x) (h2 : ∀ c ∈ w, kindB c = 0) : ∀ x ∈ push l w, clean x := by
  intro x hx
  unfold push at hx
  split at hx
  · exact h1 x hx
  · rename_i hne
    rcases List.mem_append.1 hx with hx | hx
    · exact h1 x hx
    · rw [List.mem_singleton] at hx; subst hx; exact ⟨hne, h2⟩
theorem kind_of_other {c : UInt8} (h1 : c ≠ 59) (h2 : c ≠ 32) (h3 : c ≠ 9) (h4 : strayB c = false) : kindB c = 0 := by
  unfold strayB at h4
  simp only [Bool.or_eq_false_iff, decide_eq_false_iff_not] at h4
  unfold kindB
  rw [if_neg (by simp [h2, h3]), if_neg h1, if_pos (by omega)]
theorem Tidy.step {t : LS} (h : Tidy t) (c : UInt8) : Tidy (lstep t c) := by
  intro hb
  unfold lstep at hb ⊢
  split
  · rename_i h0
    rw [if_pos h0] at hb
    obtain ⟨h1, h2⟩ := h hb
    exact ⟨push_clean h1 h2, fun _ h => by cases h⟩
  · rename_i h0
    rw [if_neg h0] at hb
    split
    · rename_i h3
      rw [if_pos h3] at hb
      obtain ⟨h1, h2⟩ := h hb
      exact ⟨push_clean h1 h2, fun _ h => by cases h⟩
    · rename_i h3
      rw [if_neg h3] at hb
      simp only [Bool.or_eq_false_iff] at hb
      obtain ⟨h1, h2⟩ := h hb.1
      refine ⟨h1, fun d hd => ?_⟩
      rcases List.mem_append.1 hd with hd | hd
      · exact h2 d hd
      · rw [List.mem_singleton] at hd
        subst hd
        have h59 : d ≠ 59 := fun e => h0 (.inr e)
        exact kind_of_other h59 (fun e => h3 (.inl e)) (fun e => h3 (.inr e)) hb.2

theorem emit_parts (n : Nat) (out : List Ln) (l : List Wd) : emit n out l = out ++ emit n [] l := by
  unfold emit; split <;> simp
theorem rise_emit {n hi : Nat} {l : List Wd} {L : List Ln} (h : ∀ w ∈ l, clean w) (hn : n ≤ hi) (hL : Rise (n + 1) hi L) : Rise n hi (emit n [] l ++ L) := by
  unfold emit
  split
  · exact hL.wide (by omega) (Nat.le_refl _)
  · rename_i hne
    exact ⟨Nat.le_refl _, hn, hne, h, hL⟩

theorem go_props (l : List UInt8) : ∀ (n : Nat) (out : List Ln) (t : LS) (o : List Ln) (m y : Nat), Tidy t → go n out t l = (o, m, y) →
    (y = 0 → m = 0 ∧ ∃ p, o = out ++ p ∧ Rise n (n + feeds l) p) ∧ (y ≠ 0 → o = [] ∧ m ≤ n + feeds l) := by
  induction l with
  | nil =>
    intro n out t o m y ht h
    rw [go] at h
    cases hb : t.bad with
    | true =>
      rw [hb, if_pos rfl] at h
      simp only [Prod.mk.injEq] at h
      obtain ⟨rfl, rfl, rfl⟩ := h
      exact ⟨(fun h => by cases h), fun _ => ⟨rfl, by omega⟩⟩
    | false =>
      rw [hb, if_neg (by simp)] at h
      simp only [Prod.mk.injEq] at h
      obtain ⟨rfl, rfl, rfl⟩ := h
      obtain ⟨h1, h2⟩ := ht hb
      refine ⟨fun _ => ⟨rfl, emit n [] (push t.l t.w), emit_parts _ _ _, ?_⟩, fun h => absurd rfl h⟩
      have := rise_emit (n := n) (hi := n + feeds []) (L := []) (push_clean h1 h2) (by omega) trivial
      rwa [List.append_nil] at this
  | cons c l ih =>
    intro n out t o m y ht h
    rw [go] at h
    rw [feeds_cons]
    by_cases hc : c = 10
    · rw [if_pos hc] at h
      rw [if_pos hc]
      cases hb : t.bad with
      | true =>
        rw [hb, if_pos rfl] at h
        simp only [Prod.mk.injEq] at h
        obtain ⟨rfl, rfl, rfl⟩ := h
        exact ⟨(fun h => by cases h), fun _ => ⟨rfl, by omega⟩⟩
      | false =>
        rw [hb, if_neg (by simp)] at h
        obtain ⟨i1, i2⟩ := ih _ _ _ _ _ _ Tidy.init h
        obtain ⟨h1, h2⟩ := ht hb
        refine ⟨fun hy => ?_, fun hy => ⟨(i2 hy).1, by have := (i2 hy).2; omega⟩⟩
        obtain ⟨j1, p, j2, j3⟩ := i1 hy
        refine ⟨j1, emit n [] (push t.l t.w) ++ p, by rw [j2, emit_parts, List.append_assoc], ?_⟩
        exact rise_emit (push_clean h1 h2) (by omega) (j3.wide (Nat.le_refl _) (by omega))
    · rw [if_neg hc] at h
      rw [if_neg hc]
      obtain ⟨i1, i2⟩ := ih _ _ _ _ _ _ (ht.step c) h
      exact ⟨fun hy => by obtain ⟨j1, p, j2, j3⟩ := i1 hy; exact ⟨j1, p, j2, j3.wide (Nat.le_refl _) (by omega)⟩, fun hy => ⟨(i2 hy).1, by have := (i2 hy).2; omega⟩⟩

theorem split_props {l : List UInt8} {o : List Ln} {m y : Nat} (h : splitV l = (o, m, y)) :
    (y = 0 → m = 0 ∧ Rise 1 (1 + feeds l) o) ∧ (y ≠ 0 → o = [] ∧ m ≤ 1 + feeds l) := by
  unfold splitV at h
  split at h
  · simp only [Prod.mk.injEq] at h
    obtain ⟨rfl, rfl, rfl⟩ := h
    exact ⟨(fun h => by cases h), fun _ => ⟨rfl, by omega⟩⟩
  · obtain ⟨h1, h2⟩ := go_props l 1 [] LS.init o m y Tidy.init h
    exact ⟨fun hy => by obtain ⟨j1, p, j2, j3⟩ := h1 hy; rw [List.nil_append] at j2; subst j2; exact ⟨j1, j3⟩, h2⟩

/-! ### further on -/
/-- The same lines, k further on. -/
def sh (k : Nat) (L : List Ln) : List Ln := L.map fun x => (x.1 + k, x.2)
theorem sh_words (k : Nat) (L : List Ln) : (sh k L).map (fun x => x.2) = L.map fun x => x.2 := by unfold sh; rw [List.map_map]; rfl
theorem emit_sh (n k : Nat) (l : List Wd) : emit (n + k) [] l = sh k (emit n [] l) := by unfold emit; split <;> rfl

theorem go_moves (s : List UInt8) : ∀ (n : Nat) (out : List Ln) (t : LS) (o : List Ln), go n out t s = (o, 0, 0) → ∃ p, o = out ++ p ∧ ∀ (k : Nat) (out1 : List Ln), go (n + k) out1 t s = (out1 ++ sh k p, 0, 0) := by
  induction s with
  | nil =>
    intro n out t o h
    rw [go] at h
    cases hb : t.bad with
    | true => rw [hb, if_pos rfl] at h; simp at h
    | false =>
      rw [hb, if_neg (by simp)] at h
      simp only [Prod.mk.injEq, and_true] at h
      refine ⟨emit n [] (push t.l t.w), by rw [← h]; exact emit_parts _ _ _, fun k out1 => ?_⟩
      rw [go, hb, if_neg (by simp), emit_parts, emit_sh]
  | cons c s ih =>
    intro n out t o h
    rw [go] at h
    by_cases hc : c = 10
    · rw [if_pos hc] at h
      cases hb : t.bad with
      | true => rw [hb, if_pos rfl] at h; simp at h
      | false =>
        rw [hb, if_neg (by simp)] at h
        obtain ⟨p, h1, h2⟩ := ih _ _ _ _ h
        refine ⟨emit n [] (push t.l t.w) ++ p, by rw [h1, emit_parts, List.append_assoc], fun k out1 => ?_⟩
        rw [go, if_pos hc, hb, if_neg (by simp), show n + k + 1 = n + 1 + k by omega, h2, emit_parts, emit_sh]
        unfold sh; simp
    · rw [if_neg hc] at h
      obtain ⟨p, h1, h2⟩ := ih _ _ _ _ h
      exact ⟨p, h1, fun k out1 => by rw [go, if_neg hc, h2]⟩

/-- A text behind a line feed behind another one. -/
theorem go_behind (s : List UInt8) : ∀ (n : Nat) (out : List Ln) (t : LS) (o : List Ln) (r : List UInt8), go n out t s = (o, 0, 0) → go n out t (s ++ 10 :: r) = go (n + feeds s + 1) o LS.init r := by
  induction s with
  | nil =>
    intro n out t o r h
    rw [go] at h
    cases hb : t.bad with
    | true => rw [hb, if_pos rfl] at h; simp at h
    | false =>
      rw [hb, if_neg (by simp)] at h
      simp only [Prod.mk.injEq, and_true] at h
      rw [List.nil_append, go, if_pos rfl, hb, if_neg (by simp), h]
      rfl
  | cons c s ih =>
    intro n out t o r h
    rw [go] at h
    rw [List.cons_append, go, feeds_cons]
    by_cases hc : c = 10
    · rw [if_pos hc] at h
      rw [if_pos hc, if_pos hc]
      cases hb : t.bad with
      | true => rw [hb, if_pos rfl] at h; simp at h
      | false =>
        rw [hb, if_neg (by simp)] at h
        rw [if_neg (by simp), ih _ _ _ _ _ h, show n + 1 + feeds s + 1 = n + (1 + feeds s) + 1 by omega]
    · rw [if_neg hc] at h
      rw [if_neg hc, if_neg hc, ih _ _ _ _ _ h, show n + (0 + feeds s) + 1 = n + feeds s + 1 by omega]

theorem go_of_split {l : List UInt8} {o : List Ln} {m : Nat} (h : splitV l = (o, m, 0)) : go 1 [] LS.init l = (o, 0, 0) := by
  have hm := ((split_props h).1 rfl).1
  subst hm
  unfold splitV at h
  split at h
  · simp at h
  · exact h
theorem split_of_go {l : List UInt8} {r : Res} (h : go 1 [] LS.init l = r) (hl : l.length ≤ 4194304) : splitV l = r := by
  unfold splitV; rw [if_neg (by omega)]; exact h

/-- P4.1: the lines of a text behind a line feed are those of what is ahead, and those of what is behind, further on. -/
theorem parts {s t : List UInt8} {a b : List Ln} {m1 m2 : Nat} (h1 : splitV s = (a, m1, 0)) (h2 : splitV t = (b, m2, 0)) (hl : s.length + t.length + 1 ≤ 4194304) : splitV (s ++ 10 :: t) = (a ++ sh (1 + feeds s) b, 0, 0) := by
  have g1 := go_of_split h1
  have g2 := go_of_split h2
  refine split_of_go ?_ (by simp; omega)
  rw [go_behind s 1 [] LS.init a t g1]
  obtain ⟨p, e, hp⟩ := go_moves t 1 [] LS.init b g2
  rw [List.nil_append] at e
  subst e
  rw [show 1 + feeds s + 1 = 1 + (1 + feeds s) by omega, hp]

/-! ### written and read again -/
theorem go_word (x : Wd) (hx : ∀ c ∈ x, kindB c = 0) : ∀ (n : Nat) (out : List Ln) (l : List Wd) (w : Wd) (r : List UInt8), go n out ⟨l, w, false, false⟩ (x ++ r) = go n out ⟨l, w ++ x, false, false⟩ r := by
  induction x with
  | nil => intro n out l w r; simp
  | cons c x ih =>
    intro n out l w r
    have hc := hx c (by simp)
    have h10 : c ≠ 10 := by intro e; subst e; revert hc; decide
    rw [List.cons_append, go, if_neg h10, lstep_part hc, ih fun d hd => hx d (by simp [hd])]
    simp
theorem go_tail (ws : List Wd) (hw : ∀ x ∈ ws, clean x) : ∀ (n : Nat) (out : List Ln) (l : List Wd) (w : Wd) (r : List UInt8), w ≠ [] →
    go n out ⟨l, w, false, false⟩ ((ws.flatMap fun x => 32 :: x) ++ 10 :: r) = go (n + 1) (out ++ [(n, l ++ w :: ws)]) LS.init r := by
  induction ws with
  | nil =>
    intro n out l w r hne
    rw [List.flatMap_nil, List.nil_append, go, if_pos rfl, if_neg (by simp)]
    unfold push emit
    rw [if_neg hne, if_neg (by simp)]
  | cons x ws ih =>
    intro n out l w r hne
    have hx := hw x (by simp)
    rw [List.flatMap_cons, List.cons_append, List.cons_append, List.append_assoc, go, if_neg (by decide), lstep_gap (by decide), go_word x hx.2, List.nil_append, ih (fun y hy => hw y (by simp [hy])) n out _ x r hx.1]
    unfold push
    rw [if_neg hne]
    simp
theorem go_line (ws : List Wd) (hne : ws ≠ []) (hw : ∀ x ∈ ws, clean x) (n : Nat) (out : List Ln) (r : List UInt8) : go n out LS.init (lineJ ws ++ 10 :: r) = go (n + 1) (out ++ [(n, ws)]) LS.init r := by
  cases ws with
  | nil => exact absurd rfl hne
  | cons w ws =>
    have h := hw w (by simp)
    unfold lineJ LS.init
    rw [List.append_assoc, go_word w h.2, List.nil_append, go_tail ws (fun y hy => hw y (by simp [hy])) n out [] w r h.1]
    rfl
/-- Lines, numbered from n on. -/
def number (n : Nat) : List (List Wd) → List Ln
  | [] => []
  | ws :: L => (n, ws) :: number (n + 1) L
theorem number_words (L : List (List Wd)) : ∀ n, (number n L).map (fun x => x.2) = L := by
  induction L with
  | nil => intro n; rfl
  | cons ws L ih => intro n; simp [number, ih]
theorem go_join (L : List (List Wd)) (h : ∀ ws ∈ L, ws ≠ [] ∧ ∀ x ∈ ws, clean x) : ∀ (n : Nat) (out : List Ln), go n out LS.init (joinV L) = (out ++ number n L, 0, 0) := by
  induction L with
  | nil => intro n out; simp [joinV, go, LS.init, push, emit, number]
  | cons ws L ih =>
    intro n out
    have hw := h ws (by simp)
    have e : joinV (ws :: L) = lineJ ws ++ 10 :: joinV L := by unfold joinV; simp
    rw [e, go_line ws hw.1 hw.2, ih fun y hy => h y (by simp [hy])]
    simp [number]
theorem rise_clean {L : List Ln} : ∀ {lo hi : Nat}, Rise lo hi L → ∀ ws ∈ L.map (fun x => x.2), ws ≠ [] ∧ ∀ x ∈ ws, clean x := by
  induction L with
  | nil => intro lo hi _ ws h; simp at h
  | cons x L ih =>
    intro lo hi ⟨_, _, h3, h4, h5⟩ ws h
    rw [List.map_cons, List.mem_cons] at h
    rcases h with rfl | h
    · exact ⟨h3, h4⟩
    · exact ih h5 ws h

/-! ### how long a text of lines is -/
def wlen (l : List Wd) : Nat := (l.map fun x => x.length + 1).sum
theorem wlen_push (l : List Wd) (w : Wd) : wlen (push l w) ≤ wlen l + w.length + 1 := by
  unfold push; split
  · omega
  · unfold wlen; rw [List.map_append, List.sum_append]; simp; omega
theorem lineJ_wlen (ws : List Wd) (h : ws ≠ []) : (lineJ ws).length + 1 = wlen ws := by
  cases ws with
  | nil => exact absurd rfl h
  | cons w ws =>
    have : (ws.flatMap fun x => (32 : UInt8) :: x).length = wlen ws := by
      induction ws with
      | nil => rfl
      | cons a ws ih => simp only [List.flatMap_cons, List.length_append, List.length_cons, ih (by simp)]; unfold wlen; simp
    simp only [lineJ, List.length_append, this]
    unfold wlen; simp; omega
theorem joinV_append (A B : List (List Wd)) : joinV (A ++ B) = joinV A ++ joinV B := List.flatMap_append
theorem join_emit (n : Nat) (out : List Ln) (l : List Wd) : (joinV ((emit n out l).map fun x => x.2)).length ≤ (joinV (out.map fun x => x.2)).length + wlen l := by
  unfold emit; split
  · omega
  · rename_i h
    rw [List.map_append, joinV_append, List.length_append]
    have : joinV ([(n, l)].map fun x : Ln => x.2) = lineJ l ++ [10] := by simp [joinV]
    rw [this, List.length_append, List.length_singleton, lineJ_wlen l h]
    omega
theorem go_len (s : List UInt8) : ∀ (n : Nat) (out : List Ln) (t : LS) (o : List Ln), go n out t s = (o, 0, 0) →
    (joinV (o.map fun x => x.2)).length ≤ (joinV (out.map fun x => x.2)).length + wlen t.l + t.w.length + 1 + 2 * s.length := by
  induction s with
  | nil =>
    intro n out t o h
    rw [go] at h
    cases hb : t.bad with
    | true => rw [hb, if_pos rfl] at h; simp at h
    | false =>
      rw [hb, if_neg (by simp)] at h
      simp only [Prod.mk.injEq, and_true] at h
      subst h
      have h1 := join_emit n out (push t.l t.w)
      have h2 := wlen_push t.l t.w
      omega
  | cons c s ih =>
    intro n out t o h
    rw [go] at h
    rw [List.length_cons]
    by_cases hc : c = 10
    · rw [if_pos hc] at h
      cases hb : t.bad with
      | true => rw [hb, if_pos rfl] at h; simp at h
      | false =>
        rw [hb, if_neg (by simp)] at h
        have h0 := ih _ _ _ _ h
        have h1 := join_emit n out (push t.l t.w)
        have h2 := wlen_push t.l t.w
        have h3 : wlen LS.init.l = 0 := rfl
        have h4 : LS.init.w.length = 0 := rfl
        omega
    · rw [if_neg hc] at h
      have h0 := ih _ _ _ _ h
      have h2 := wlen_push t.l t.w
      have h3 : wlen (lstep t c).l + (lstep t c).w.length ≤ wlen t.l + t.w.length + 1 := by
        unfold lstep; split
        · simp only [List.length_nil]; omega
        · split
          · simp only [List.length_nil]; omega
          · simp only [List.length_append, List.length_singleton]; omega
      omega

/-- P4.3: what was told, written, and read again. -/
theorem again {s : List UInt8} {o : List Ln} {m : Nat} (h : splitV s = (o, m, 0)) (hs : s.length ≤ 30000) :
    (joinV (o.map fun x => x.2)).length ≤ 60001 ∧ splitV (joinV (o.map fun x => x.2)) = (number 1 (o.map fun x => x.2), 0, 0) := by
  have g := go_of_split h
  have hl := go_len s 1 [] LS.init o g
  have h3 : wlen LS.init.l = 0 := rfl
  have h4 : LS.init.w.length = 0 := rfl
  have h5 : (joinV (([] : List Ln).map fun x => x.2)).length = 0 := rfl
  refine ⟨by omega, split_of_go ?_ (by omega)⟩
  have hr := ((split_props h).1 rfl).2
  rw [go_join _ (rise_clean hr)]
  rfl

/-! ### blanks and remarks -/
/-- Each blank as blank, tab, blank. -/
def widen (s : List UInt8) : List UInt8 := s.flatMap fun c => if c = 32 then [32, 9, 32] else [c]
theorem lstep_blanks (t : LS) : lstep (lstep (lstep t 32) 9) 32 = lstep t 32 := by
  obtain ⟨l, w, r, b⟩ := t
  cases r <;> simp [lstep, push]
theorem go_widen (s : List UInt8) : ∀ (n : Nat) (out : List Ln) (t : LS) (r : List UInt8), go n out t (widen s ++ r) = go n out t (s ++ r) := by
  induction s with
  | nil => intro n out t r; rfl
  | cons c s ih =>
    intro n out t r
    have e : widen (c :: s) = (if c = 32 then [32, 9, 32] else [c]) ++ widen s := rfl
    rw [e]
    by_cases h : c = 32
    · subst h
      rw [if_pos rfl]
      show go n out t (32 :: 9 :: 32 :: (widen s ++ r)) = go n out t (32 :: (s ++ r))
      rw [go, if_neg (by decide), go, if_neg (by decide), go, if_neg (by decide), lstep_blanks, ih, go, if_neg (by decide)]
    · rw [if_neg h]
      show go n out t (c :: (widen s ++ r)) = go n out t (c :: (s ++ r))
      rw [go, go]
      by_cases hc : c = 10
      · rw [if_pos hc, if_pos hc]; split
        · rfl
        · exact ih _ _ _ _
      · rw [if_neg hc, if_neg hc]; exact ih _ _ _ _
theorem go_rem (r : List UInt8) (h : ∀ c ∈ r, c ≠ 10) : ∀ (n : Nat) (out : List Ln) (l : List Wd), go n out ⟨l, [], true, false⟩ r = (emit n out l, 0, 0) := by
  induction r with
  | nil => intro n out l; rw [go, if_neg (by simp)]; simp [push]
  | cons c r ih =>
    intro n out l
    rw [go, if_neg (h c (by simp)), lstep_rem rfl rfl]
    exact ih (fun d hd => h d (by simp [hd])) n out l
theorem go_remark (s : List UInt8) (r : List UInt8) (hr : ∀ c ∈ r, c ≠ 10) : ∀ (n : Nat) (out : List Ln) (t : LS) (o : List Ln), go n out t s = (o, 0, 0) → go n out t (s ++ 59 :: r) = (o, 0, 0) := by
  induction s with
  | nil =>
    intro n out t o h
    rw [go] at h
    cases hb : t.bad with
    | true => rw [hb, if_pos rfl] at h; simp at h
    | false =>
      rw [hb, if_neg (by simp)] at h
      have e : lstep t 59 = ⟨push t.l t.w, [], true, false⟩ := by unfold lstep; rw [if_pos (.inr rfl), hb]
      rw [List.nil_append, go, if_neg (by decide), e, go_rem r hr, h]
  | cons c s ih =>
    intro n out t o h
    rw [go] at h
    rw [List.cons_append, go]
    by_cases hc : c = 10
    · rw [if_pos hc] at h ⊢
      cases hb : t.bad with
      | true => rw [hb, if_pos rfl] at h; simp at h
      | false =>
        rw [hb, if_neg (by simp)] at h
        rw [if_neg (by simp)]
        exact ih _ _ _ _ h
    · rw [if_neg hc] at h ⊢
      exact ih _ _ _ _ h
/-- a line, a line of blanks, ahead. -/
theorem go_ahead (r : List UInt8) : go 1 [] LS.init ([10, 32, 9, 10] ++ r) = go 3 [] LS.init r := by
  show go 1 [] LS.init (10 :: 32 :: 9 :: 10 :: r) = _
  rw [go, if_pos rfl, if_neg (by simp [LS.init]), go, if_neg (by decide), go, if_neg (by decide), go, if_pos rfl, if_neg (by simp [lstep, LS.init])]
  rfl
theorem widen_len (s : List UInt8) : (widen s).length ≤ 3 * s.length := by
  induction s with
  | nil => exact Nat.le_refl _
  | cons c s ih =>
    have e : widen (c :: s) = (if c = 32 then [32, 9, 32] else [c]) ++ widen s := rfl
    rw [e, List.length_append, List.length_cons]
    split
    · simp; omega
    · simp; omega
theorem widen_next (l : List UInt8) (c : UInt8) : widen (l ++ [c]) = widen l ++ if c = 32 then [32, 9, 32] else [c] := by unfold widen; simp

/-- P4.3: remarks, blanks and empty lines more. -/
theorem blanks {s r : List UInt8} {o : List Ln} {m : Nat} (h : splitV s = (o, m, 0)) (hs : s.length ≤ 30000) : splitV ([10, 32, 9, 10] ++ widen s) = (sh 2 o, 0, 0) ∧
    ((∀ c ∈ r, c ≠ 10) → r.length ≤ 1000 → splitV ([10, 32, 9, 10] ++ widen s ++ 59 :: r) = (sh 2 o, 0, 0)) := by
  have g := go_of_split h
  obtain ⟨p, e, hp⟩ := go_moves s 1 [] LS.init o g
  rw [List.nil_append] at e
  subst e
  have g3 := hp 2 []
  rw [List.nil_append] at g3
  have hw := widen_len s
  refine ⟨split_of_go ?_ (by simp; omega), fun hr hrl => split_of_go ?_ (by simp; omega)⟩
  · rw [go_ahead]
    have := go_widen s 3 [] LS.init []
    rw [List.append_nil, List.append_nil] at this
    rw [this]; exact g3
  · rw [List.append_assoc, go_ahead, go_widen]
    exact go_remark s r hr 3 [] LS.init _ g3
end Go.Proofs.Ytdibmmiobmlcbaa.LinesM
