/-
  A text's lines, whatever their numbers are: of an error only its line counts; cut behind it, or with other lines behind it, it is the same; so with blanks, empty lines and remarks.
-/
import Derived.Test.YtkfpcaganhmkcaaDoorText
namespace Go.Proofs.YtkfpcaganhmkcaaDoor.Rd5
open Go.RowKit Api Syn WordM
open LinesM hiding Wd

/-- Lines by their places: the state; or the place of the line at fault, and the error. -/
def readX : RS → List (List Wd) → Except (Nat × Int) RS
  | s, [] => .ok s
  | s, ws :: l => match lineE (lineO s.1 s.2.1 s.2.2 (ws.headD []) ws.tail) with
    | .error e => .error (0, e)
    | .ok s' => match readX s' l with
      | .error x => .error (x.1 + 1, x.2)
      | .ok t => .ok t
theorem readX_lt : ∀ (L : List (List Wd)) (s : RS) (x : Nat × Int), readX s L = .error x → x.1 < L.length := by
  intro L
  induction L with
  | nil => intro s x h; cases h
  | cons ws L ih =>
    intro s x h
    simp only [readX] at h
    split at h
    · injection h with h; subst h; simp
    · split at h
      · rename_i s' _ y hy
        injection h with h
        subst h
        have := ih _ _ hy
        simp only [List.length_cons]
        omega
      · cases h
theorem readX_take : ∀ (L M : List (List Wd)) (s : RS) (x : Nat × Int), readX s L = .error x → readX s (L.take (x.1 + 1) ++ M) = .error x := by
  intro L
  induction L with
  | nil => intro M s x h; cases h
  | cons ws L ih =>
    intro M s x h
    simp only [readX] at h
    simp only [List.take_succ_cons, List.cons_append, readX]
    split at h
    · injection h with h; subst h; rfl
    · split at h
      · rename_i s' _ y hy
        injection h with h
        subst h
        simp only
        rw [ih M _ _ hy]
      · cases h
theorem readE_x : ∀ (l : List Ln) (s : RS), readE s l = match readX s (l.map fun x => x.2) with
    | .ok t => .ok t
    | .error x => .error ((l.getD x.1 (0, [])).1, x.2) := by
  intro l
  induction l with
  | nil => intro s; rfl
  | cons y l ih =>
    intro s
    obtain ⟨k, ws⟩ := y
    simp only [readE, List.map_cons, readX]
    cases lineE (lineO s.1 s.2.1 s.2.2 (ws.headD []) ws.tail) with
    | error e => rfl
    | ok s' =>
      simp only
      rw [ih s']
      cases readX s' (l.map fun x => x.2) with
      | error x => simp
      | ok t => rfl
/-- A text's lines: the program; or the place of the line at fault (none: the end), and the error. -/
def parseX (L : List (List Wd)) : Except (Option Nat × Int) Prog := match readX (⟨false, [], [], [], []⟩, 1, 0) L with
  | .error x => .error (some x.1, x.2)
  | .ok (p, pl, _) => if stB pl 519 = true then .ok p else .error (none, 3)
theorem parseE_x (l : List Ln) : parseE l = match parseX (l.map fun x => x.2) with
    | .ok p => .ok p
    | .error x => .error (match x.1 with | none => 0 | some k => (l.getD k (0, [])).1, x.2) := by
  unfold parseE parseX
  rw [readE_x]
  cases readX (⟨false, [], [], [], []⟩, 1, 0) (l.map fun x => x.2) with
  | error x => rfl
  | ok t =>
    obtain ⟨p, pl, lg⟩ := t
    simp only
    split <;> rfl
theorem parseX_lt {L : List (List Wd)} {k : Nat} {e : Int} (h : parseX L = .error (some k, e)) : k < L.length := by
  unfold parseX at h
  cases hr : readX (⟨false, [], [], [], []⟩, 1, 0) L with
  | error x =>
    rw [hr] at h
    simp only [Except.error.injEq, Prod.mk.injEq, Option.some.injEq] at h
    obtain ⟨rfl, rfl⟩ := h
    exact readX_lt _ _ _ hr
  | ok t =>
    obtain ⟨p, pl, lg⟩ := t
    rw [hr] at h
    simp only at h
    split at h <;> simp at h
theorem parseX_take {L : List (List Wd)} {k : Nat} {e : Int} (h : parseX L = .error (some k, e)) (M : List (List Wd)) : parseX (L.take (k + 1) ++ M) = .error (some k, e) := by
  unfold parseX at h ⊢
  cases hr : readX (⟨false, [], [], [], []⟩, 1, 0) L with
  | error x =>
    rw [hr] at h
    simp only [Except.error.injEq, Prod.mk.injEq, Option.some.injEq] at h
    obtain ⟨rfl, rfl⟩ := h
    rw [readX_take _ M _ _ hr]
  | ok t =>
    obtain ⟨p, pl, lg⟩ := t
    rw [hr] at h
    simp only at h
    split at h <;> simp at h
theorem rise_get : ∀ {L : List Ln} {lo hi : Nat}, Rise lo hi L → ∀ (i : Nat) (x : Ln), L[i]? = some x → lo ≤ x.1 := by
  intro L
  induction L with
  | nil => intro lo hi _ i x h; simp at h
  | cons y L ih =>
    intro lo hi ⟨h1, h2, h3, h4, h5⟩ i x h
    cases i with
    | zero => simp at h; subst h; exact h1
    | succ i => have := ih h5 i x (by simpa using h); omega
theorem rise_lt : ∀ {L : List Ln} {lo hi : Nat}, Rise lo hi L → ∀ (i j : Nat) (x y : Ln), L[i]? = some x → L[j]? = some y → i < j → x.1 < y.1 := by
  intro L
  induction L with
  | nil => intro lo hi _ i j x y h; simp at h
  | cons z L ih =>
    intro lo hi ⟨h1, h2, h3, h4, h5⟩ i j x y hx hy hij
    cases j with
    | zero => omega
    | succ j =>
      cases i with
      | zero =>
        simp at hx; subst hx
        have := rise_get h5 j y (by simpa using hy)
        omega
      | succ i => exact ih h5 i j x y (by simpa using hx) (by simpa using hy) (by omega)
theorem number_get (L : List (List Wd)) : ∀ (n k : Nat), k < L.length → ((number n L).getD k (0, [])).1 = n + k := by
  induction L with
  | nil => intro n k h; simp at h
  | cons ws L ih =>
    intro n k h
    cases k with
    | zero => rfl
    | succ k =>
      have := ih (n + 1) k (by simpa using h)
      simp only [number, List.getD_cons_succ]
      omega
theorem number_length (L : List (List Wd)) : ∀ n : Nat, (number n L).length = L.length := by
  intro n
  have := congrArg List.length (number_words L n)
  simpa using this
theorem go_joins (L : List (List Wd)) (h : ∀ ws ∈ L, ws ≠ [] ∧ ∀ x ∈ ws, clean x) : ∀ (n : Nat) (out : List Ln) (r : List UInt8), go n out LS.init (joinV L ++ r) = go (n + L.length) (out ++ number n L) LS.init r := by
  induction L with
  | nil => intro n out r; simp [joinV, number]
  | cons ws L ih =>
    intro n out r
    have hw := h ws (by simp)
    have e : joinV (ws :: L) ++ r = lineJ ws ++ 10 :: (joinV L ++ r) := by unfold joinV; simp
    rw [e, go_line ws hw.1 hw.2, ih fun y hy => h y (by simp [hy])]
    simp only [number, List.length_cons, List.append_assoc, List.cons_append, List.nil_append]
    rw [show n + 1 + L.length = n + (L.length + 1) by omega]
theorem clean_take {L : List (List Wd)} (h : ∀ ws ∈ L, ws ≠ [] ∧ ∀ x ∈ ws, clean x) (k : Nat) : ∀ ws ∈ L.take k, ws ≠ [] ∧ ∀ x ∈ ws, clean x := fun ws hw => h ws (List.mem_of_mem_take hw)
theorem textE_of {s : List UInt8} {o : List Ln} (h : splitV s = (o, 0, 0)) : textE s = parseE o := by
  unfold textE
  rw [h]
  simp
/-- P5.2: cut behind the line at fault, and with other lines behind it. -/
theorem front_same {s t : List UInt8} {a b : List Ln} {m1 m2 n : Nat} {e : Int} (h1 : splitV s = (a, m1, 0)) (h2 : splitV t = (b, m2, 0)) (hs : s.length ≤ 30000) (ht : t.length ≤ 30000) (he : textE s = .error (n, e)) (hn : n ≠ 0) :
    ∃ k, k < a.length ∧ n = (a.getD k (0, [])).1 ∧
      (joinV ((a.take (k + 1)).map fun x => x.2)).length ≤ 60001 ∧
      textE (joinV ((a.take (k + 1)).map fun x => x.2)) = .error (k + 1, e) ∧
      textE (joinV ((a.take (k + 1)).map fun x => x.2) ++ t) = .error (k + 1, e) := by
  obtain rfl := ((split_props h1).1 rfl).1
  have hr := ((split_props h1).1 rfl).2
  rw [textE_of h1, parseE_x] at he
  cases hp : parseX (a.map fun x => x.2) with
  | ok p => rw [hp] at he; cases he
  | error x =>
    obtain ⟨j, e2⟩ := x
    rw [hp] at he
    simp only [Except.error.injEq, Prod.mk.injEq] at he
    obtain ⟨he1, rfl⟩ := he
    cases j with
    | none => exact absurd he1.symm hn
    | some k =>
      simp only at he1
      have hk : k < a.length := by have := parseX_lt hp; simpa using this
      have hcl := rise_clean hr
      have e1 : (a.take (k + 1)).map (fun x => x.2) = (a.map fun x => x.2).take (k + 1) := by rw [List.map_take]
      have hc2 := clean_take hcl (k + 1)
      have hlen : ((a.map fun x => x.2).take (k + 1)).length = k + 1 := by simp; omega
      obtain ⟨hl, _⟩ := again h1 hs
      have hle : (joinV ((a.map fun x => x.2).take (k + 1))).length ≤ 60001 := Nat.le_trans (joinV_le _ _) hl
      refine ⟨k, hk, he1.symm, by rw [e1]; exact hle, ?_, ?_⟩
      · rw [e1]
        have hg := go_join _ hc2 1 []
        rw [List.nil_append] at hg
        rw [textE_of (split_of_go hg (by omega)), parseE_x, number_words]
        have ht := parseX_take hp []
        rw [List.append_nil] at ht
        rw [ht]
        simp only
        rw [number_get _ _ _ (by omega)]
        congr 2
        omega
      · rw [e1]
        have hg := go_joins _ hc2 1 [] t
        obtain ⟨p, hp1, hp2⟩ := go_moves t 1 [] LS.init b (go_of_split h2)
        rw [hp2, List.nil_append] at hg
        rw [textE_of (split_of_go hg (by simp only [List.length_append]; omega)), parseE_x]
        rw [List.map_append, number_words, parseX_take hp]
        simp only
        rw [List.getD_eq_getElem?_getD, List.getElem?_append_left (by rw [number_length]; omega), ← List.getD_eq_getElem?_getD, number_get _ _ _ (by omega)]
        congr 2
        omega
/-- What stands ahead of each line: an empty line, a remark, blanks. -/
def ahead5 : List UInt8 := [10, 59, 120, 32, 61, 32, 10, 32, 32]
def blankV (L : List (List Wd)) : List UInt8 := L.flatMap fun ws => ahead5 ++ (lineJ ws ++ [10])
def thrice (n : Nat) : List (List Wd) → List Ln
  | [] => []
  | ws :: L => (n + 2, ws) :: thrice (n + 3) L
theorem thrice_words (L : List (List Wd)) : ∀ n, (thrice n L).map (fun x => x.2) = L := by
  induction L with
  | nil => intro n; rfl
  | cons ws L ih => intro n; simp [thrice, ih]
theorem thrice_get (L : List (List Wd)) : ∀ (n k : Nat), k < L.length → ((thrice n L).getD k (0, [])).1 = n + 3 * k + 2 := by
  induction L with
  | nil => intro n k h; simp at h
  | cons ws L ih =>
    intro n k h
    cases k with
    | zero => rfl
    | succ k =>
      have := ih (n + 3) k (by simpa using h)
      simp only [thrice, List.getD_cons_succ]
      omega
theorem go_ahead5 (n : Nat) (out : List Ln) (r : List UInt8) : go n out LS.init (ahead5 ++ r) = go (n + 2) out LS.init r := by
  unfold ahead5
  rfl
theorem go_blank (L : List (List Wd)) (h : ∀ ws ∈ L, ws ≠ [] ∧ ∀ x ∈ ws, clean x) : ∀ (n : Nat) (out : List Ln), go n out LS.init (blankV L) = (out ++ thrice n L, 0, 0) := by
  induction L with
  | nil => intro n out; simp [blankV, go, LS.init, push, emit, thrice]
  | cons ws L ih =>
    intro n out
    have hw := h ws (by simp)
    have e : blankV (ws :: L) = ahead5 ++ (lineJ ws ++ 10 :: blankV L) := by unfold blankV; simp
    rw [e, go_ahead5, go_line ws hw.1 hw.2, ih fun y hy => h y (by simp [hy])]
    simp [thrice]
theorem blank_len (L : List (List Wd)) : (blankV L).length = (joinV L).length + 9 * L.length := by
  induction L with
  | nil => rfl
  | cons ws L ih =>
    have e : blankV (ws :: L) = ahead5 ++ (lineJ ws ++ 10 :: blankV L) := by unfold blankV; simp
    have e2 : joinV (ws :: L) = lineJ ws ++ 10 :: joinV L := by unfold joinV; simp
    rw [e, e2]
    simp only [List.length_append, List.length_cons, ih]
    show 9 + _ = _
    omega
theorem join_count (L : List (List Wd)) : L.length ≤ (joinV L).length := by
  induction L with
  | nil => simp
  | cons ws L ih =>
    have e2 : joinV (ws :: L) = lineJ ws ++ 10 :: joinV L := by unfold joinV; simp
    rw [e2]
    simp only [List.length_append, List.length_cons]
    omega
/-- P5.2: with an empty line, a remark, and blanks ahead of each line. -/
theorem blank_same {s : List UInt8} {a : List Ln} {m1 : Nat} (h1 : splitV s = (a, m1, 0)) (hs : s.length ≤ 30000) :
    (blankV (a.map fun x => x.2)).length ≤ 700000 ∧ a.length ≤ 60001 ∧
    (∀ p, textE s = .ok p → textE (blankV (a.map fun x => x.2)) = .ok p) ∧
    ∀ n e, textE s = .error (n, e) → ∃ line, textE (blankV (a.map fun x => x.2)) = .error (line, e) ∧
      ((n = 0 ∧ line = 0) ∨ ∃ k, k < a.length ∧ n = (a.getD k (0, [])).1 ∧ line = 3 * (k + 1)) := by
  obtain rfl := ((split_props h1).1 rfl).1
  have hr := ((split_props h1).1 rfl).2
  have hcl := rise_clean hr
  obtain ⟨hl, _⟩ := again h1 hs
  have hc := join_count (a.map fun x => x.2)
  have hb := blank_len (a.map fun x => x.2)
  have hg := go_blank _ hcl 1 []
  rw [List.nil_append] at hg
  have ht := textE_of (split_of_go hg (by omega))
  have hal : (a.map fun x => x.2).length = a.length := by simp
  refine ⟨by omega, by omega, fun p hp => ?_, fun n e he => ?_⟩
  · rw [ht, parseE_x, thrice_words]
    rw [textE_of h1, parseE_x] at hp
    cases hx : parseX (a.map fun x => x.2) with
    | ok q => rw [hx] at hp; exact hp
    | error x => rw [hx] at hp; cases hp
  · rw [ht, parseE_x, thrice_words]
    rw [textE_of h1, parseE_x] at he
    cases hx : parseX (a.map fun x => x.2) with
    | ok q => rw [hx] at he; cases he
    | error x =>
      obtain ⟨j, e2⟩ := x
      rw [hx] at he
      simp only [Except.error.injEq, Prod.mk.injEq] at he
      obtain ⟨he1, rfl⟩ := he
      cases j with
      | none => exact ⟨0, rfl, .inl ⟨he1.symm, rfl⟩⟩
      | some k =>
        simp only at he1
        have hk : k < a.length := by have := parseX_lt hx; omega
        refine ⟨3 * (k + 1), ?_, .inr ⟨k, hk, he1.symm, rfl⟩⟩
        simp only
        rw [thrice_get _ _ _ (by omega)]
        congr 2
        omega
end Go.Proofs.YtkfpcaganhmkcaaDoor.Rd5
