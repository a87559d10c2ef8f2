/-
  Nums ShowP Lay5
-/
import Derived.Test.YtdgmdpphimenjaaDoorText
import Derived.Test.YtdgmdpphimenjaaDoorL1
import Derived.Test.YtdgmdpphimenjaaDoorW1
/-
  A text's lines, whatever their numbers are: of an error only its line counts; cut behind it, or with other lines behind it, it is the same; so with blanks, empty lines and remarks.
-/
namespace Go.Proofs.YtdgmdpphimenjaaDoor.Rd5
open Go.RowKit Api Syn WordM
open LinesM hiding Wd

/-- Lines by their places: the state; or the place of the line at fault, and the error. -/
def readX : RS → List (List Wd) → Except (Nat × Int) RS
  | s, [] => .ok s
  | s, ws :: l => match lineE (lineO s.1 s.2.1 s.2.2 (ws.headD []) ws.tail) with
    | .error e => .error (0, e)
    | .ok s' => match readX s' l with
      | .error x => .error (x.1 + 1, x.2)
      | .ok t => .ok t
theorem readX_lt : ∀ (L : List (List Wd)) (s : RS) (x : Nat × Int), readX s L = .error x → x.1 < L.length := by
  intro L
  induction L with
  | nil => intro s x h; cases h
  | cons ws L ih =>
    intro s x h
    simp only [readX] at h
    split at h
    · injection h with h; subst h; simp
    · split at h
      · rename_i s' _ y hy
        injection h with h
        subst h
        have := ih _ _ hy
        simp only [List.length_cons]
        omega
      · cases h
theorem readX_take : ∀ (L M : List (List Wd)) (s : RS) (x : Nat × Int), readX s L = .error x → readX s (L.take (x.1 + 1) ++ M) = .error x := by
  intro L
  induction L with
  | nil => intro M s x h; cases h
  | cons ws L ih =>
    intro M s x h
    simp only [readX] at h
    simp only [List.take_succ_cons, List.cons_append, readX]
    split at h
    · injection h with h; subst h; rfl
    · split at h
      · rename_i s' _ y hy
        injection h with h
        subst h
        simp only
        rw [ih M _ _ hy]
      · cases h
theorem readE_x : ∀ (l : List Ln) (s : RS), readE s l = match readX s (l.map fun x => x.2) with
    | .ok t => .ok t
    | .error x => .error ((l.getD x.1 (0, [])).1, x.2) := by
  intro l
  induction l with
  | nil => intro s; rfl
  | cons y l ih =>
    intro s
    obtain ⟨k, ws⟩ := y
    simp only [readE, List.map_cons, readX]
    cases lineE (lineO s.1 s.2.1 s.2.2 (ws.headD []) ws.tail) with
    | error e => rfl
    | ok s' =>
      simp only
      rw [ih s']
      cases readX s' (l.map fun x => x.2) with
      | error x => simp
      | ok t => rfl
/-- A text's lines: the program; or the place of the line at fault (none: the end), and the error. -/
def parseX (L : List (List Wd)) : Except (Option Nat × Int) Prog := match readX (⟨false, [], [], [], []⟩, 1, 0) L with
  | .error x => .error (some x.1, x.2)
  | .ok (p, pl, _) => if stB pl 519 = true then .ok p else .error (none, 3)
theorem parseE_x (l : List Ln) : parseE l = match parseX (l.map fun x => x.2) with
    | .ok p => .ok p
    | .error x => .error (match x.1 with | none => 0 | some k => (l.getD k (0, [])).1, x.2) := by
  unfold parseE parseX
  rw [readE_x]
  cases readX (⟨false, [], [], [], []⟩, 1, 0) (l.map fun x => x.2) with
  | error x => rfl
  | ok t =>
    obtain ⟨p, pl, lg⟩ := t
    simp only
    split <;> rfl
theorem parseX_lt {L : List (List Wd)} {k : Nat} {e : Int} (h : parseX L = .error (some k, e)) : k < L.length := by
  unfold parseX at h
  cases hr : readX (⟨false, [], [], [], []⟩, 1, 0) L with
  | error x =>
    rw [hr] at h
    simp only [Except.error.injEq, Prod.mk.injEq, Option.some.injEq] at h
    obtain ⟨rfl, rfl⟩ := h
    exact readX_lt _ _ _ hr
  | ok t =>
    obtain ⟨p, pl, lg⟩ := t
    rw [hr] at h
    simp only at h
    split at h <;> simp at h
theorem parseX_take {L : List (List Wd)} {k : Nat} {e : Int} (h : parseX L = .error (some k, e)) (M : List (List Wd)) : parseX (L.take (k + 1) ++ M) = .error (some k, e) := by
  unfold parseX at h ⊢
  cases hr : readX (⟨false, [], [], [], []⟩, 1, 0) L with
  | error x =>
    rw [hr] at h
    simp only [Except.error.injEq, Prod.mk.injEq, Option.some.injEq] at h
    obtain ⟨rfl, rfl⟩ := h
    rw [readX_take _ M _ _ hr]
  | ok t =>
    obtain ⟨p, pl, lg⟩ := t
    rw [hr] at h
    simp only at h
    split at h <;> simp at h
theorem rise_get : ∀ {L : List Ln} {lo hi : Nat}, Rise lo hi L → ∀ (i : Nat) (x : Ln), L[i]? = some x → lo ≤ x.1 := by
  intro L
  induction L with
  | nil => intro lo hi _ i x h; simp at h
  | cons y L ih =>
    intro lo hi ⟨h1, h2, h3, h4, h5⟩ i x h
    cases i with
    | zero => simp at h; subst h; exact h1
    | succ i => have := ih h5 i x (by simpa using h); omega
theorem rise_lt : ∀ {L : List Ln} {lo hi : Nat}, Rise lo hi L → ∀ (i j : Nat) (x y : Ln), L[i]? = some x → L[j]? = some y → i < j → x.1 < y.1 := by
  intro L
  induction L with
  | nil => intro lo hi _ i j x y h; simp at h
  | cons z L ih =>
    intro lo hi ⟨h1, h2, h3, h4, h5⟩ i j x y hx hy hij
    cases j with
    | zero => omega
    | succ j =>
      cases i with
      | zero =>
        simp at hx; subst hx
        have := rise_get h5 j y (by simpa using hy)
        omega
      | succ i => exact ih h5 i j x y (by simpa using hx) (by simpa using hy) (by omega)
theorem number_get (L : List (List Wd)) : ∀ (n k : Nat), k < L.length → ((number n L).getD k (0, [])).1 = n + k := by
  induction L with
  | nil => intro n k h; simp at h
  | cons ws L ih =>
    intro n k h
    cases k with
    | zero => rfl
    | succ k =>
      have := ih (n + 1) k (by simpa using h)
      simp only [number, List.getD_cons_succ]
      omega
theorem number_length (L : List (List Wd)) : ∀ n : Nat, (number n L).length = L.length := by
  intro n
  have := congrArg List.length (number_words L n)
  simpa using this
theorem go_joins (L : List (List Wd)) (h : ∀ ws ∈ L, ws ≠ [] ∧ ∀ x ∈ ws, clean x) : ∀ (n : Nat) (out : List Ln) (r : List UInt8), go n out LS.init (joinV L ++ r) = go (n + L.length) (out ++ number n L) LS.init r := by
  induction L with
  | nil => intro n out r; simp [joinV, number]
  | cons ws L ih =>
    intro n out r
    have hw := h ws (by simp)
    have e : joinV (ws :: L) ++ r = lineJ ws ++ 10 :: (joinV L ++ r) := by unfold joinV; simp
    rw [e, go_line ws hw.1 hw.2, ih fun y hy => h y (by simp [hy])]
    simp only [number, List.length_cons, List.append_assoc, List.cons_append, List.nil_append]
    rw [show n + 1 + L.length = n + (L.length + 1) by omega]
theorem clean_take {L : List (List Wd)} (h : ∀ ws ∈ L, ws ≠ [] ∧ ∀ x ∈ ws, clean x) (k : Nat) : ∀ ws ∈ L.take k, ws ≠ [] ∧ ∀ x ∈ ws, clean x := fun ws hw => h ws (List.mem_of_mem_take hw)
theorem textE_of {s : List UInt8} {o : List Ln} (h : splitV s = (o, 0, 0)) : textE s = parseE o := by
  unfold textE
  rw [h]
  simp
/-- P5.2: cut behind the line at fault, and with other lines behind it. -/
theorem front_same {s t : List UInt8} {a b : List Ln} {m1 m2 n : Nat} {e : Int} (h1 : splitV s = (a, m1, 0)) (h2 : splitV t = (b, m2, 0)) (hs : s.length ≤ 30000) (ht : t.length ≤ 30000) (he : textE s = .error (n, e)) (hn : n ≠ 0) :
    ∃ k, k < a.length ∧ n = (a.getD k (0, [])).1 ∧
      (joinV ((a.take (k + 1)).map fun x => x.2)).length ≤ 60001 ∧
      textE (joinV ((a.take (k + 1)).map fun x => x.2)) = .error (k + 1, e) ∧
      textE (joinV ((a.take (k + 1)).map fun x => x.2) ++ t) = .error (k + 1, e) := by
  obtain rfl := ((split_props h1).1 rfl).1
  have hr := ((split_props h1).1 rfl).2
  rw [textE_of h1, parseE_x] at he
  cases hp : parseX (a.map fun x => x.2) with
  | ok p => rw [hp] at he; cases he
  | error x =>
    obtain ⟨j, e2⟩ := x
    rw [hp] at he
    simp only [Except.error.injEq, Prod.mk.injEq] at he
    obtain ⟨he1, rfl⟩ := he
    cases j with
    | none => exact absurd he1.symm hn
    | some k =>
      simp only at he1
      have hk : k < a.length := by have := parseX_lt hp; simpa using this
      have hcl := rise_clean hr
      have e1 : (a.take (k + 1)).map (fun x => x.2) = (a.map fun x => x.2).take (k + 1) := by rw [List.map_take]
      have hc2 := clean_take hcl (k + 1)
      have hlen : ((a.map fun x => x.2).take (k + 1)).length = k + 1 := by simp; omega
      obtain ⟨hl, _⟩ := again h1 hs
      have hle : (joinV ((a.map fun x => x.2).take (k + 1))).length ≤ 60001 := Nat.le_trans (joinV_le _ _) hl
      refine ⟨k, hk, he1.symm, by rw [e1]; exact hle, ?_, ?_⟩
      · rw [e1]
        have hg := go_join _ hc2 1 []
        rw [List.nil_append] at hg
        rw [textE_of (split_of_go hg (by omega)), parseE_x, number_words]
        have ht := parseX_take hp []
        rw [List.append_nil] at ht
        rw [ht]
        simp only
        rw [number_get _ _ _ (by omega)]
        congr 2
        omega
      · rw [e1]
        have hg := go_joins _ hc2 1 [] t
        obtain ⟨p, hp1, hp2⟩ := go_moves t 1 [] LS.init b (go_of_split h2)
        rw [hp2, List.nil_append] at hg
        rw [textE_of (split_of_go hg (by simp only [List.length_append]; omega)), parseE_x]
        rw [List.map_append, number_words, parseX_take hp]
        simp only
        rw [List.getD_eq_getElem?_getD, List.getElem?_append_left (by rw [number_length]; omega), ← List.getD_eq_getElem?_getD, number_get _ _ _ (by omega)]
        congr 2
        omega
/-- What stands ahead of each line: an empty line, a remark, blanks. -/
def ahead5 : List UInt8 := [10, 59, 120, 32, 61, 32, 10, 32, 32]
def blankV (L : List (List Wd)) : List UInt8 := L.flatMap fun ws => ahead5 ++ (lineJ ws ++ [10])
def thrice (n : Nat) : List (List Wd) → List Ln
  | [] => []
  | ws :: L => (n + 2, ws) :: thrice (n + 3) L
theorem thrice_words (L : List (List Wd)) : ∀ n, (thrice n L).map (fun x => x.2) = L := by
  induction L with
  | nil => intro n; rfl
  | cons ws L ih => intro n; simp [thrice, ih]
theorem thrice_get (L : List (List Wd)) : ∀ (n k : Nat), k < L.length → ((thrice n L).getD k (0, [])).1 = n + 3 * k + 2 := by
  induction L with
  | nil => intro n k h; simp at h
  | cons ws L ih =>
    intro n k h
    cases k with
    | zero => rfl
    | succ k =>
      have := ih (n + 3) k (by simpa using h)
      simp only [thrice, List.getD_cons_succ]
      omega
theorem go_ahead5 (n : Nat) (out : List Ln) (r : List UInt8) : go n out LS.init (ahead5 ++ r) = go (n + 2) out LS.init r := by
  unfold ahead5
  rfl
theorem go_blank (L : List (List Wd)) (h : ∀ ws ∈ L, ws ≠ [] ∧ ∀ x ∈ ws, clean x) : ∀ (n : Nat) (out : List Ln), go n out LS.init (blankV L) = (out ++ thrice n L, 0, 0) := by
  induction L with
  | nil => intro n out; simp [blankV, go, LS.init, push, emit, thrice]
  | cons ws L ih =>
    intro n out
    have hw := h ws (by simp)
    have e : blankV (ws :: L) = ahead5 ++ (lineJ ws ++ 10 :: blankV L) := by unfold blankV; simp
    rw [e, go_ahead5, go_line ws hw.1 hw.2, ih fun y hy => h y (by simp [hy])]
    simp [thrice]
theorem blank_len (L : List (List Wd)) : (blankV L).length = (joinV L).length + 9 * L.length := by
  induction L with
  | nil => rfl
  | cons ws L ih =>
    have e : blankV (ws :: L) = ahead5 ++ (lineJ ws ++ 10 :: blankV L) := by unfold blankV; simp
    have e2 : joinV (ws :: L) = lineJ ws ++ 10 :: joinV L := by unfold joinV; simp
    rw [e, e2]
    simp only [List.length_append, List.length_cons, ih]
    show 9 + _ = _
    omega
theorem join_count (L : List (List Wd)) : L.length ≤ (joinV L).length := by
  induction L with
  | nil => simp
  | cons ws L ih =>
    have e2 : joinV (ws :: L) = lineJ ws ++ 10 :: joinV L := by unfold joinV; simp
    rw [e2]
    simp only [List.length_append, List.length_cons]
    omega
/-- P5.2: with an empty line, a remark, and blanks ahead of each line. -/
theorem blank_same {s : List UInt8} {a : List Ln} {m1 : Nat} (h1 : splitV s = (a, m1, 0)) (hs : s.length ≤ 30000) :
    (blankV (a.map fun x => x.2)).length ≤ 700000 ∧ a.length ≤ 60001 ∧
    (∀ p, textE s = .ok p → textE (blankV (a.map fun x => x.2)) = .ok p) ∧
    ∀ n e, textE s = .error (n, e) → ∃ line, textE (blankV (a.map fun x => x.2)) = .error (line, e) ∧
      ((n = 0 ∧ line = 0) ∨ ∃ k, k < a.length ∧ n = (a.getD k (0, [])).1 ∧ line = 3 * (k + 1)) := by
  obtain rfl := ((split_props h1).1 rfl).1
  have hr := ((split_props h1).1 rfl).2
  have hcl := rise_clean hr
  obtain ⟨hl, _⟩ := again h1 hs
  have hc := join_count (a.map fun x => x.2)
  have hb := blank_len (a.map fun x => x.2)
  have hg := go_blank _ hcl 1 []
  rw [List.nil_append] at hg
  have ht := textE_of (split_of_go hg (by omega))
  have hal : (a.map fun x => x.2).length = a.length := by simp
  refine ⟨by omega, by omega, fun p hp => ?_, fun n e he => ?_⟩
  · rw [ht, parseE_x, thrice_words]
    rw [textE_of h1, parseE_x] at hp
    cases hx : parseX (a.map fun x => x.2) with
    | ok q => rw [hx] at hp; exact hp
    | error x => rw [hx] at hp; cases hp
  · rw [ht, parseE_x, thrice_words]
    rw [textE_of h1, parseE_x] at he
    cases hx : parseX (a.map fun x => x.2) with
    | ok q => rw [hx] at he; cases he
    | error x =>
      obtain ⟨j, e2⟩ := x
      rw [hx] at he
      simp only [Except.error.injEq, Prod.mk.injEq] at he
      obtain ⟨he1, rfl⟩ := he
      cases j with
      | none => exact ⟨0, rfl, .inl ⟨he1.symm, rfl⟩⟩
      | some k =>
        simp only at he1
        have hk : k < a.length := by have := parseX_lt hx; omega
        refine ⟨3 * (k + 1), ?_, .inr ⟨k, hk, he1.symm, rfl⟩⟩
        simp only
        rw [thrice_get _ _ _ (by omega)]
        congr 2
        omega
end Go.Proofs.YtdgmdpphimenjaaDoor.Rd5

/-
  Package show: the text of a program, as plain data: how long it is at most, and that it is read as it.
-/
namespace Go.Proofs.YtdgmdpphimenjaaDoor.Rd5
open Go.RowKit Api Syn WordM
open LinesM hiding Wd

/-- The text of a program, or why it has none. -/
def textV (q : Prog) : Wd × Int := if progR q = true then (if wp q ≤ 4194304 then (joinV (progLs q), 0) else ([], 2)) else ([], 1)

theorem flat_ne {α : Type} {f : α → List (List Wd)} {l : List α} (h : ∀ x ∈ l, ∀ ws ∈ f x, ws ≠ []) : ∀ ws ∈ l.flatMap f, ws ≠ [] := by
  intro ws hw
  obtain ⟨x, hx, hy⟩ := List.mem_flatMap.1 hw
  exact h x hx ws hy
theorem map_ne {α : Type} {f : α → List Wd} {l : List α} (h : ∀ x, f x ≠ []) : ∀ ws ∈ l.map f, ws ≠ [] := by
  intro ws hw
  obtain ⟨x, _, rfl⟩ := List.mem_map.1 hw
  exact h x
theorem app_ne {a b : List (List Wd)} (ha : ∀ ws ∈ a, ws ≠ []) (hb : ∀ ws ∈ b, ws ≠ []) : ∀ ws ∈ a ++ b, ws ≠ [] := by
  intro ws hw
  rcases List.mem_append.1 hw with h | h
  · exact ha ws h
  · exact hb ws h
theorem cons_ne {a : List Wd} {b : List (List Wd)} (ha : a ≠ []) (hb : ∀ ws ∈ b, ws ≠ []) : ∀ ws ∈ a :: b, ws ≠ [] := by
  intro ws hw
  rcases List.mem_cons.1 hw with rfl | h
  · exact ha
  · exact hb ws h
theorem end_ne (t : Api.Term) : endL t ≠ [] := by
  unfold endL
  repeat' split
  all_goals simp
theorem instr_ne (i : Instr) : ∀ ws ∈ instrLs i, ws ≠ [] := by
  unfold instrLs
  refine cons_ne ?_ (app_ne (map_ne fun x => by simp [frameL]) (map_ne fun x => by simp [virtL]))
  unfold instrL
  split
  · simp [instrW]
  · simp
theorem block_ne (b : Api.Block) : ∀ ws ∈ blockLs b, ws ≠ [] := by
  unfold blockLs
  refine cons_ne (by simp) (app_ne (map_ne fun x => by simp [phiL]) (app_ne (flat_ne fun i _ => instr_ne i) ?_))
  unfold finLs
  split
  · intro ws h; cases h
  · intro ws h
    rw [List.mem_singleton] at h
    subst h
    exact end_ne _
theorem func_ne (f : Api.Func) : ∀ ws ∈ funcLs f, ws ≠ [] :=
  cons_ne (by simp) (app_ne (map_ne fun x => by simp [varL]) (app_ne (map_ne fun x => by simp [varL]) (flat_ne fun b _ => block_ne b)))
theorem prog_ne (q : Prog) : ∀ ws ∈ progLs q, ws ≠ [] := by
  unfold progLs
  refine app_ne ?_ (app_ne (flat_ne fun c _ => cons_ne (by simp) (map_ne fun x => by simp [varL])) (app_ne (map_ne fun x => by simp [varL]) (app_ne (map_ne fun x => by simp [externL]) (flat_ne fun f _ => func_ne f))))
  split
  · intro ws h
    rw [List.mem_singleton] at h
    subst h
    simp
  · intro ws h; cases h
theorem wlen_pos {ws : List Wd} (h : ws ≠ []) : 1 ≤ wlen ws := by
  cases ws with
  | nil => exact absurd rfl h
  | cons a l => simp [wlen]; omega
theorem len_wls {L : List (List Wd)} (h : ∀ ws ∈ L, ws ≠ []) : L.length ≤ wls L := by
  induction L with
  | nil => simp
  | cons a l ih =>
    have h1 := wlen_pos (h a (by simp))
    have h2 := ih fun ws hw => h ws (by simp [hw])
    rw [wls_cons, List.length_cons]
    omega
theorem join_wls {L : List (List Wd)} (h : ∀ ws ∈ L, ws ≠ []) : (joinV L).length = wls L := by
  induction L with
  | nil => rfl
  | cons a l ih =>
    have h1 := lineJ_wlen a (h a (by simp))
    have h2 := ih fun ws hw => h ws (by simp [hw])
    have e : joinV (a :: l) = lineJ a ++ [10] ++ joinV l := by unfold joinV; simp
    rw [wls_cons, e, List.length_append, List.length_append, h2]
    simp only [List.length_cons, List.length_nil]
    omega

/-! ### how long -/
theorem wlen_le {ws : List Wd} {n : Nat} (hn : ws.length ≤ n) (h : ∀ x ∈ ws, x.length ≤ 99) : wlen ws ≤ n * 100 := by
  have : wlen ws ≤ ws.length * 100 := by
    clear hn
    induction ws with
    | nil => simp [wlen]
    | cons a l ih =>
      have h1 := h a (by simp)
      have h2 := ih fun x hx => h x (by simp [hx])
      rw [wlen_cons, List.length_cons]
      omega
  omega
theorem wls_le {L : List (List Wd)} {n M : Nat} (hn : L.length ≤ n) (h : ∀ ws ∈ L, wlen ws ≤ M) : wls L ≤ n * M := by
  have h2 : wls L ≤ L.length * M := by
    clear hn
    induction L with
    | nil => simp [wls]
    | cons a l ih =>
      have h1 := h a (by simp)
      have h2 := ih fun x hx => h x (by simp [hx])
      rw [wls_cons, List.length_cons, Nat.succ_mul]
      omega
  exact Nat.le_trans h2 (Nat.mul_le_mul_right M hn)
theorem wls_map_le {α : Type} {f : α → List Wd} {l : List α} {n M : Nat} (hn : l.length ≤ n) (h : ∀ x ∈ l, wlen (f x) ≤ M) : wls (l.map f) ≤ n * M :=
  wls_le (by rw [List.length_map]; exact hn) fun ws hw => by obtain ⟨x, hx, rfl⟩ := List.mem_map.1 hw; exact h x hx
theorem wls_flat_le {α : Type} {f : α → List (List Wd)} {l : List α} {n M : Nat} (hn : l.length ≤ n) (h : ∀ x ∈ l, wls (f x) ≤ M) : wls (l.flatMap f) ≤ n * M := by
  have h2 : wls (l.flatMap f) ≤ l.length * M := by
    clear hn
    induction l with
    | nil => simp [wls]
    | cons a l ih =>
      have h1 := h a (by simp)
      have h2 := ih fun x hx => h x (by simp [hx])
      rw [List.flatMap_cons, wls_append, List.length_cons, Nat.succ_mul]
      omega
  exact Nat.le_trans h2 (Nat.mul_le_mul_right M hn)
theorem name_len {x : Wd} (h : nameV x = true) : x.length ≤ 99 := by
  obtain ⟨_, _, _, _, _, h⟩ := name_parts h
  omega
theorem kind_len {x : Wd} (h : kindV x = true) : x.length ≤ 99 := by
  unfold kindV at h
  simp only [Bool.or_eq_true, beq_iff_eq] at h
  rcases h with (rfl | rfl) | h
  · decide
  · decide
  · exact name_len h
theorem dec_len {n : Int} (h : NumM.In n) : (NumM.dec n).length ≤ 99 := by
  have h2 := NumM.get_dec n h
  unfold NumM.getV at h2
  split at h2
  · simp at h2
  · omega
theorem arg_len {a : Arg} (h : argR a = true) (hI : argI a) : (putA a).length ≤ 99 := by
  have : (wput (ofA a)).length ≤ 22 := wput_len h hI
  unfold putA
  omega
theorem argx_len {a : Arg} (h : argX a = true) (hI : argI a) : (putA a).length ≤ 99 := arg_len (x_of h).1 hI
theorem var_len {v : Var} (h : varR v = true) {k : Wd} (hk : k.length ≤ 99) : wlen (varL k v) ≤ 300 := by
  unfold varR at h
  simp only [Bool.and_eq_true] at h
  have h1 := name_len h.1
  have h2 := kind_len h.2
  refine wlen_le (n := 3) (by simp [varL]) ?_
  intro x hx
  simp only [varL, List.mem_cons, List.not_mem_nil, or_false] at hx
  rcases hx with rfl | rfl | rfl <;> assumption
theorem binds_len {l : List Bind} {n : Nat} (hn : l.length ≤ n) (h : ∀ b ∈ l, nameV b.name = true ∧ (putA b.a).length ≤ 99) : (l.flatMap bindL).length ≤ 2 * n ∧ ∀ x ∈ l.flatMap bindL, x.length ≤ 99 := by
  constructor
  · have : (l.flatMap bindL).length = 2 * l.length := by
      clear hn h
      induction l with
      | nil => rfl
      | cons a l ih => rw [List.flatMap_cons, List.length_append, ih, List.length_cons]; simp [bindL]; omega
    omega
  · intro x hx
    obtain ⟨b, hb, hy⟩ := List.mem_flatMap.1 hx
    simp only [bindL, List.mem_cons, List.not_mem_nil, or_false] at hy
    rcases hy with rfl | rfl
    · exact name_len (h b hb).1
    · exact (h b hb).2
theorem phi_len {p : Phi} (h : phiR p = true) (hI : phiI p) : wlen (phiL p) ≤ 51400 := by
  unfold phiR allR at h
  simp only [Bool.and_eq_true, decide_eq_true_eq, List.all_eq_true] at h
  obtain ⟨h1, _, h3, h4⟩ := h
  have h5 := binds_len h3 fun b hb => by
    have := h4 b hb
    unfold inR at this
    simp only [Bool.and_eq_true] at this
    exact ⟨this.1, argx_len this.2 (hI b hb)⟩
  refine wlen_le (n := 514) (by simp only [phiL, List.length_cons]; omega) ?_
  intro x hx
  simp only [phiL, List.mem_cons] at hx
  rcases hx with rfl | rfl | hx
  · decide
  · exact name_len h1
  · exact h5.2 x hx
theorem frame_len {f : Api.Frame} (h : frameR f = true) (hI : ∀ b ∈ f.vars, argI b.a) : wlen (frameL f) ≤ 3600 := by
  unfold frameR allR at h
  simp only [Bool.and_eq_true, decide_eq_true_eq, List.all_eq_true] at h
  obtain ⟨h1, h2, ⟨h3, h4⟩, h5, h6⟩ := h
  have h7 := binds_len h5 fun b hb => by
    have := h6 b hb
    unfold bindR at this
    simp only [Bool.and_eq_true] at this
    exact ⟨this.1, arg_len this.2 (hI b hb)⟩
  refine wlen_le (n := 36) (by simp only [frameL, List.length_cons]; omega) ?_
  intro x hx
  simp only [frameL, List.mem_cons] at hx
  rcases hx with rfl | rfl | rfl | rfl | hx
  · decide
  · exact name_len h1
  · exact name_len h2
  · exact dec_len (by unfold NumM.In; omega)
  · exact h7.2 x hx
theorem virt_len {f : Virt} (h : virtR f = true) (hI : ∀ a ∈ f.vals, argI a) : wlen (virtL f) ≤ 1000 := by
  unfold virtR allR at h
  simp only [Bool.and_eq_true, decide_eq_true_eq, List.all_eq_true] at h
  obtain ⟨h1, h2, h3⟩ := h
  refine wlen_le (n := 10) (by simp only [virtL, List.length_cons, List.length_map]; omega) ?_
  intro x hx
  simp only [virtL, List.mem_cons, List.mem_map] at hx
  rcases hx with rfl | rfl | ⟨a, ha, rfl⟩
  · decide
  · exact name_len h1
  · exact arg_len (h3 a ha) (hI a ha)
theorem none_len {x : Wd} {b : Bool} (h : noneR x b = true) : x.length ≤ 99 := by
  unfold noneR at h
  split at h
  · exact name_len h
  · simp only [beq_iff_eq] at h
    subst h
    decide
theorem opw_len (k : Nat) : (opWords.getD k []).length ≤ 99 := by
  by_cases h : k < 35
  · have hall : ∀ k ∈ List.range 35, (opWords.getD k []).length ≤ 99 := by decide +kernel
    exact hall k (List.mem_range.2 h)
  · have hl : opWords.length ≤ 35 := by decide +kernel
    rw [List.getD_eq_getElem?_getD, List.getElem?_eq_none (by omega)]
    decide
theorem wls_instr {i : Instr} (h : instrR i = true) (hI : instrI i) : wls (instrLs i) ≤ 157800 := by
  have h0 := h
  unfold instrR at h
  simp only [Bool.and_eq_true, decide_eq_true_eq, List.all_eq_true] at h
  obtain ⟨hf, hd, hn, _, ⟨hm, hx⟩, hst⟩ := h
  have hm2 := (ahead_least hf).2.2
  have hst2 : ((∀ f ∈ i.frames, frameR f = true) ∧ i.frames.length ≤ 16) ∧ ((∀ o ∈ i.objs, virtR o = true) ∧ i.objs.length ≤ 99) := by
    unfold stateR at hst
    split at hst
    · simp only [Bool.and_eq_true, decide_eq_true_eq, List.length_eq_zero_iff] at hst
      rw [hst.1, hst.2]
      simp
    · simp only [Bool.and_eq_true] at hst
      unfold allR at hst
      simp only [Bool.and_eq_true, decide_eq_true_eq, List.all_eq_true] at hst
      exact ⟨⟨hst.1.2, hst.1.1⟩, ⟨hst.2.2, hst.2.1⟩⟩
  have hW : (instrW i).length ≤ 10 ∧ ∀ x ∈ instrW i, x.length ≤ 99 := by
    constructor
    · unfold instrW
      simp only [List.length_cons, List.length_append, List.length_map, List.length_take, List.length_drop]
      have : (if (formV i.op).1.named = true then [i.name] else []).length ≤ 1 := by split <;> simp
      omega
    · intro x hw
      have harg : ∀ a ∈ i.args, (putA a).length ≤ 99 := fun a ha => argx_len (hx a ha) (hI.1 a ha)
      simp only [instrW, List.mem_cons, List.mem_append, List.mem_map] at hw
      rcases hw with rfl | ⟨a, ha, rfl⟩ | hw | ⟨a, ha, rfl⟩
      · exact opw_len _
      · exact harg a (List.mem_of_mem_take ha)
      · split at hw
        · rw [List.mem_singleton] at hw
          subst hw
          exact none_len hn
        · cases hw
      · exact harg a (List.mem_of_mem_drop ha)
  have hL : wlen (instrL i) ≤ 1200 := by
    unfold instrL
    split
    · have := wlen_le (n := 10) hW.1 hW.2
      omega
    · refine wlen_le (n := 12) (by simp only [List.length_cons]; omega) ?_
      intro x hw
      simp only [List.mem_cons] at hw
      rcases hw with rfl | rfl | hw
      · exact none_len hd
      · decide
      · exact hW.2 x hw
  have hF := wls_map_le (f := frameL) hst2.1.2 fun f hf => frame_len (hst2.1.1 f hf) (hI.2.1 f hf)
  have hO := wls_map_le (f := virtL) hst2.2.2 fun o ho => virt_len (hst2.2.1 o ho) (hI.2.2 o ho)
  rw [wi_eq]
  omega
theorem end_len {t : Api.Term} (h : finR t = true) (hI : finI t) : wlen (endL t) ≤ 400 := by
  unfold finR at h
  unfold endL
  have hdest : ∀ n, destsR n t.dest = true → t.dest.length = n ∧ ∀ x ∈ t.dest, x.length ≤ 99 := by
    intro n hd
    unfold destsR at hd
    simp only [Bool.and_eq_true, decide_eq_true_eq, List.all_eq_true] at hd
    exact ⟨hd.1, fun x hx => name_len (hd.2 x hx)⟩
  split at h
  · rename_i h1
    rw [if_pos h1]
    simp only [Bool.and_eq_true] at h
    have hd := hdest _ h.2.1
    refine wlen_le (n := 4) (by simp only [List.length_cons]; omega) ?_
    intro x hx
    rcases List.mem_cons.1 hx with rfl | hx
    · decide
    · exact hd.2 x hx
  · rename_i h1
    rw [if_neg h1]
    split at h
    · rename_i h2
      rw [if_pos h2]
      simp only [Bool.and_eq_true] at h
      have hd := hdest _ h.2.1
      refine wlen_le (n := 4) (by simp only [List.length_cons]; omega) ?_
      intro x hx
      simp only [List.mem_cons] at hx
      rcases hx with rfl | rfl | hx
      · decide
      · exact argx_len h.1 hI.1
      · exact hd.2 x hx
    · rename_i h2
      rw [if_neg h2]
      split at h
      · rename_i h3
        rw [if_pos h3]
        simp only [Bool.and_eq_true] at h
        refine wlen_le (n := 4) (by simp) ?_
        intro x hx
        simp only [List.mem_cons, List.not_mem_nil, or_false] at hx
        rcases hx with rfl | rfl
        · decide
        · exact argx_len h.1 hI.1
      · rename_i h3
        rw [if_neg h3]
        refine wlen_le (n := 4) (by simp) ?_
        intro x hx
        simp only [List.mem_cons, List.not_mem_nil, or_false] at hx
        rcases hx with rfl | rfl
        · decide
        · exact dec_len hI.2
theorem wls_block {b : Api.Block} (h : blockR b = true) (hI : blockI b) : wls (blockLs b) ≤ 600 + longB b * 157800 := by
  have h0 := h
  unfold blockR allR at h
  simp only [Bool.and_eq_true, decide_eq_true_eq, List.all_eq_true] at h
  obtain ⟨h1, ⟨_, h3⟩, ⟨_, h5⟩, h6⟩ := h
  have hp := wls_map_le (f := phiL) (Nat.le_refl b.phis.length) fun p hp => phi_len (h3 p hp) (hI.1 p hp)
  have hc := wls_flat_le (f := instrLs) (Nat.le_refl b.code.length) fun i hi => wls_instr (h5 i hi) (hI.2.1 i hi)
  have he := end_len h6 hI.2.2
  have hn : wlen [kBlock, b.name] ≤ 2 * 100 := wlen_le (by simp) (by
    intro x hx
    simp only [List.mem_cons, List.not_mem_nil, or_false] at hx
    rcases hx with rfl | rfl
    · decide
    · exact name_len h1)
  rw [wb_eq, finLs_of h6, wls_cons, wls_nil]
  unfold longB
  omega
theorem wls_blocks {l : List Api.Block} (h : ∀ b ∈ l, blockR b = true ∧ blockI b) : wls (l.flatMap blockLs) ≤ l.length * 600 + longF l * 157800 := by
  induction l with
  | nil => simp [wls]
  | cons a l ih =>
    have h1 := wls_block (h a (by simp)).1 (h a (by simp)).2
    have h2 := ih fun b hb => h b (by simp [hb])
    have e : longF (a :: l) = longB a + longF l := by unfold longF; simp
    rw [List.flatMap_cons, wls_append, List.length_cons, e, Nat.succ_mul, Nat.add_mul]
    omega
theorem wls_func {f : Api.Func} (h : funcR f = true) (hI : funcI f) : wls (funcLs f) ≤ 170000000 := by
  have h0 := h
  unfold funcR allR at h
  simp only [Bool.and_eq_true, decide_eq_true_eq, List.all_eq_true] at h
  obtain ⟨h1, h2, ⟨h3, h4⟩, ⟨h5, h6⟩, ⟨_, h8⟩, h9, h10⟩ := h
  have hp := wls_map_le (f := varL kParam) h3 fun v hv => var_len (h4 v hv) (by decide)
  have hv := wls_map_le (f := varL kVar) h5 fun v hv => var_len (h6 v hv) (by decide)
  have hb := wls_blocks fun b hb => ⟨h10 b hb, hI b hb⟩
  have hn : wlen [kFunc, f.name, f.result] ≤ 3 * 100 := wlen_le (by simp) (by
    intro x hx
    simp only [List.mem_cons, List.not_mem_nil, or_false] at hx
    rcases hx with rfl | rfl | rfl
    · decide
    · exact name_len h1
    · exact kind_len h2)
  rw [wf_eq]
  omega
/-- A right program's text isn't too long to be reckoned with. -/
theorem wp_le {q : Prog} (h : progR q = true) (hI : progI q) : wp q ≤ 2147483648 := by
  unfold progR allR at h
  simp only [Bool.and_eq_true, decide_eq_true_eq, List.all_eq_true] at h
  obtain ⟨⟨h1, h2⟩, ⟨h3, h4⟩, ⟨h5, h6⟩, h7, h8⟩ := h
  have hc : wls (q.classes.flatMap classLs) ≤ 8 * 2600 := wls_flat_le h1 fun c hc => by
    have := h2 c hc
    unfold classR allR at this
    simp only [Bool.and_eq_true, decide_eq_true_eq, List.all_eq_true] at this
    obtain ⟨g1, g2, g3⟩ := this
    have hf := wls_map_le (f := varL kField) g2 fun v hv => var_len (g3 v hv) (by decide)
    have hn : wlen [kClass, c.name] ≤ 2 * 100 := wlen_le (by simp) (by
      intro x hx
      simp only [List.mem_cons, List.not_mem_nil, or_false] at hx
      rcases hx with rfl | rfl
      · decide
      · exact name_len g1)
    rw [wc_eq]
    omega
  have hg := wls_map_le (f := varL kGlobal) h3 fun v hv => var_len (h4 v hv) (by decide)
  have he := wls_map_le (f := externL) (M := 300) h5 fun e he => by
    have := h6 e he
    unfold externR at this
    simp only [Bool.and_eq_true, decide_eq_true_eq] at this
    obtain ⟨g1, g2, g3⟩ := this
    refine wlen_le (n := 3) (by simp [externL]) ?_
    intro x hx
    simp only [externL, List.mem_cons, List.not_mem_nil, or_false] at hx
    rcases hx with rfl | rfl | rfl
    · decide
    · exact name_len g1
    · exact dec_len (by unfold NumM.In; omega)
  have hf := wls_flat_le (f := funcLs) h7 fun f hf => wls_func (h8 f hf) (hI f hf)
  have hs : wls (if q.ssa then [[kSsa]] else []) ≤ 4 := by split <;> decide
  rw [wp_eq]
  omega
theorem len_wp (q : Prog) : (progLs q).length ≤ wp q := len_wls (prog_ne q)
theorem join_wp (q : Prog) : (joinV (progLs q)).length = wp q := join_wls (prog_ne q)
end Go.Proofs.YtdgmdpphimenjaaDoor.Rd5

/-
  Package show: the lines of a function, laid.
-/
namespace Go.Proofs.YtdgmdpphimenjaaDoor.Sh6
open Go.RowKit Api Syn WordM Mem Rd5
open LinesM hiding Wd

/-- Behind it a function's lines T are laid, or so many of them that the text is full. -/
def FuncP (base lb fb : Nat) (w : World) (ls : List (List Wd)) (left : Int) (T : List (List Wd)) (e : Ending) (w' : World) : Prop :=
  e = .returned (.tuple #[]) ∧ ∃ T2, wls T2 ≤ wls T ∧ T2.length ≤ T.length ∧ Laid base lb fb w ls left T2 w' ∧ (T2 = T ∨ left - (wls T2 : Nat) < 0)
theorem Laid.left {base lb fb : Nat} {w w' : World} {ls : List (List Wd)} {left : Int} {T : List (List Wd)} (h : Laid base lb fb w ls left T w') : Own w' fb 3 [i64 (left - (wls T : Nat))] := h.1.2.2.1
theorem len_of {A B : List (List Wd)} (h : ∀ ws ∈ A, ws ≠ []) (hw : wls (A ++ B) ≤ 274877906944) : wls A ≤ 274877906944 ∧ A.length ≤ 274877906944 := by
  have h1 := len_wls h
  rw [wls_app] at hw
  omega
theorem pre_w {A B : List (List Wd)} (h : A <+: B) : wls A ≤ wls B := by obtain ⟨t, rfl⟩ := h; rw [wls_app]; omega
theorem pre_n {A B : List (List Wd)} (h : A <+: B) : A.length ≤ B.length := h.length_le
theorem flat_pre {α : Type} (f : α → List (List Wd)) {l : List α} {k : Nat} {x : α} (h : l[k]? = some x) : (l.take k).flatMap f ++ f x <+: l.flatMap f := by
  obtain ⟨hk, e⟩ := List.getElem?_eq_some_iff.1 h
  have h2 : l = l.take k ++ x :: l.drop (k + 1) := by rw [← e]; simp
  refine ⟨(l.drop (k + 1)).flatMap f, ?_⟩
  conv => rhs; rw [h2]
  simp
theorem map_pre {α : Type} (f : α → List Wd) {l : List α} {k : Nat} {x : α} (h : l[k]? = some x) : (l.take k).map f ++ [f x] <+: l.map f := by
  obtain ⟨hk, e⟩ := List.getElem?_eq_some_iff.1 h
  have h2 : l = l.take k ++ x :: l.drop (k + 1) := by rw [← e]; simp
  refine ⟨(l.drop (k + 1)).map f, ?_⟩
  conv => rhs; rw [h2]
  simp
theorem ahead_pre {A B : List (List Wd)} (C : List (List Wd)) (h : A <+: B) : C ++ A <+: C ++ B := by obtain ⟨t, rfl⟩ := h; exact ⟨t, by simp⟩
section
variable (P : List (List Wd)) (bn : Wd) (phs : List Phi) (cod : List Instr) (t : Api.Term)
theorem blk1 : P ++ [[kBlock, bn]] <+: P ++ blockLs ⟨bn, phs, cod, t⟩ := ahead_pre P ⟨_, rfl⟩
theorem blk2 {j : Nat} {p : Phi} (h : phs[j]? = some p) : ((P ++ [[kBlock, bn]]) ++ (phs.take j).map phiL) ++ [phiL p] <+: P ++ blockLs ⟨bn, phs, cod, t⟩ := by
  obtain ⟨r, hr⟩ := map_pre phiL h
  exact ⟨r ++ (cod.flatMap instrLs ++ finLs t), by unfold blockLs; simp only; rw [← hr]; simp⟩
theorem blk3 {j : Nat} {i : Instr} (h : cod[j]? = some i) : (((P ++ [[kBlock, bn]]) ++ phs.map phiL) ++ (cod.take j).flatMap instrLs) ++ instrLs i <+: P ++ blockLs ⟨bn, phs, cod, t⟩ := by
  obtain ⟨r, hr⟩ := flat_pre instrLs h
  exact ⟨r ++ finLs t, by unfold blockLs; simp only; rw [← hr]; simp⟩
theorem blk4 (h : finLs t = [endL t]) : (((P ++ [[kBlock, bn]]) ++ phs.map phiL) ++ cod.flatMap instrLs) ++ [endL t] = P ++ blockLs ⟨bn, phs, cod, t⟩ := by
  unfold blockLs; simp only; rw [h]; simp
end
theorem block_parts {b : Api.Block} (h : blockR b = true) : (∀ p ∈ b.phis, phiR p = true) ∧ (∀ i ∈ b.code, instrR i = true) ∧ finR b.fin = true := by
  unfold blockR allR at h
  simp only [Bool.and_eq_true, List.all_eq_true] at h
  exact ⟨h.2.1.2, h.2.2.1.2, h.2.2.2⟩
theorem phi_ins {p : Phi} (h : phiR p = true) : p.ins.length ≤ 1048576 := by
  unfold phiR allR at h
  simp only [Bool.and_eq_true, decide_eq_true_eq] at h
  omega
abbrev headF (nm rs : Wd) (ps vs : List Var) : List (List Wd) := ([] ++ [[kFunc, nm, rs]]) ++ ps.map (varL kParam) ++ vs.map (varL kVar)
theorem head_func (nm rs : Wd) (ps vs : List Var) (bl : List Api.Block) : funcLs ⟨nm, rs, ps, vs, bl⟩ = headF nm rs ps vs ++ bl.flatMap blockLs := by unfold funcLs headF; simp
set_option maxRecDepth 100000 in
set_option maxHeartbeats 16000000 in
theorem layFunc_any (lo hi : Nat) (w : World) (base lb fb : Nat) (ls : List (List Wd)) (left : Int) (cs : List Value) (x : Api.Func) (hx : FuncC lo hi w cs x) (hh : hi ≤ base) (hL : LaidS w) (hg0 : 1 < base) (hR : funcR x = true) (hI : funcI x) (hS : LayS base lb fb w ls left) (hl : ls.length ≤ 137438953472) (hT : wls (funcLs x) ≤ 137438953472) (h1 : -576460752303423488 ≤ left) (h2 : left ≤ 4194304) :
    Calls Tryd.prog 48 #[.agg cs.toArray, layV fb lb, fullV fb] w (FuncP base lb fb w ls left (funcLs x)) := by
  have hbs : base ≤ w.heap.size := Nat.le_trans hS.1 (by obtain ⟨_, _, _, _, _, o, _⟩ := hS; exact Nat.le_of_lt o.lt)
  obtain ⟨u1, u2, u3, rfl, kp, kv, kb⟩ := hx
  have hN : (funcLs x).length ≤ 137438953472 := Nat.le_trans (len_wls (func_ne x)) hT
  obtain ⟨nm, rs, ps, vs, bl⟩ := x
  simp only at kp kv kb
  obtain ⟨B1, c1, rfl⟩ := kp.form
  obtain ⟨B2, c2, rfl⟩ := kv.form
  obtain ⟨B3, c3, rfl⟩ := kb.form
  obtain ⟨b3, f3, hn3, hm3, ha3, hc3⟩ := kb.get
  have hbl : ∀ b ∈ bl, blockR b = true := by
    unfold funcR allR at hR
    simp only [Bool.and_eq_true, List.all_eq_true] at hR
    exact hR.2.2.2.2.2.2
  obtain ⟨W, hW⟩ : ∃ W, w.alloc (.cells #[str nm, str rs, .slice B1 ps.length c1, .slice B2 vs.length c2, .slice B3 bl.length c3] 37) = W := ⟨_, rfl⟩
  have hO : Own W w.heap.size 37 [str nm, str rs, .slice B1 ps.length c1, .slice B2 vs.length c2, .slice B3 bl.length c3] := by rw [← hW]; exact Own.made w _ [str nm, str rs, .slice B1 ps.length c1, .slice B2 vs.length c2, .slice B3 bl.length c3]
  have hbW : Below w.heap.size w W := by rw [← hW]; exact (Below.refl _ _).alloc (Nat.le_refl _) _
  have HS0 := Lib.hid (Laid.start hS hbW)
  have HO := Lib.hid hO
  have HW := Lib.hid hW
  have HF := Lib.hid (head_func nm rs ps vs bl)
  have hT0 := hT
  have hN0 := hN
  rw [HF.out] at hT0 hN0
  have HT := Lib.hid hT0
  have HN := Lib.hid hN0
  have HR := Lib.hid hbl
  have HI := Lib.hid (show ∀ b ∈ bl, blockI b from hI)
  have HH := Lib.hid hh
  have HL := Lib.hid hL
  have KP := Lib.hid kp
  have KV := Lib.hid kv
  have HC3 := Lib.hid hc3
  have HA3 := Lib.hid ha3
  have hbsW : base ≤ W.heap.size := HS0.out.size
  have hf1 : ([] ++ [[kFunc, nm, rs]]) <+: (headF nm rs ps vs ++ bl.flatMap blockLs) := ⟨ps.map (varL kParam) ++ (vs.map (varL kVar) ++ bl.flatMap blockLs), by simp [headF]⟩
  have hf2 : (([] ++ [[kFunc, nm, rs]]) ++ ps.map (varL kParam)) <+: (headF nm rs ps vs ++ bl.flatMap blockLs) := ⟨vs.map (varL kVar) ++ bl.flatMap blockLs, by simp [headF]⟩
  have hf3 : headF nm rs ps vs <+: (headF nm rs ps vs ++ bl.flatMap blockLs) := ⟨_, rfl⟩
  have hw1 : wls ([] ++ [[kFunc, nm, rs]]) ≤ 137438953472 := Nat.le_trans (pre_w hf1) hT0
  have hw2 : wls (([] ++ [[kFunc, nm, rs]]) ++ ps.map (varL kParam)) ≤ 137438953472 := Nat.le_trans (pre_w hf2) hT0
  have hw3 : wls ((([] ++ [[kFunc, nm, rs]]) ++ ps.map (varL kParam)) ++ vs.map (varL kVar)) ≤ 137438953472 := Nat.le_trans (pre_w hf3) hT0
  have hn2 : (([] ++ [[kFunc, nm, rs]]) ++ ps.map (varL kParam)).length ≤ 137438953472 := Nat.le_trans (pre_n hf2) hN0
  have hn3' : ((([] ++ [[kFunc, nm, rs]]) ++ ps.map (varL kParam)) ++ vs.map (varL kVar)).length ≤ 137438953472 := Nat.le_trans (pre_n hf3) hN0
  rw [List.length_append, List.length_map] at hn2 hn3'
  have HLN7 : Hid (ls.length + ([] ++ [[kFunc, nm, rs]]).length + ps.length ≤ 1099511627776) := Lib.hid (by omega)
  have HWL7 : Hid (wls (([] ++ [[kFunc, nm, rs]]) ++ ps.map (varL kParam)) ≤ 1099511627776) := Lib.hid (by omega)
  have HLN8 : Hid (ls.length + (([] ++ [[kFunc, nm, rs]]) ++ ps.map (varL kParam)).length + vs.length ≤ 1099511627776) := Lib.hid (by omega)
  have HWL8 : Hid (wls ((([] ++ [[kFunc, nm, rs]]) ++ ps.map (varL kParam)) ++ vs.map (varL kVar)) ≤ 1099511627776) := Lib.hid (by omega)
  have HWL6 : Hid (wls ([] ++ [[kFunc, nm, rs]]) ≤ 1099511627776) := Lib.hid (by omega)
  clear hw1 hw2 hw3 hn2 hn3'
  clear hO hW hT hT0 hN hN0 hR hI hh hL kp kv kb hc3 ha3 hbW hS hbl hf1 hf2 hf3 hbs
  go_enter Tryd.func48, Tryd.ntmps48
  have hr := made_row (base := base) (g := w.heap.size + 1) (w := W) [.string ⟨#[102, 117, 110, 99]⟩, str nm, str rs] [kFunc, nm, rs] rfl (by rw [← HW.out]; simp) hbsW (by simp [LinesM.strs, kFunc]) (by simp)
  have QL := Lib.hid (Laid.more (v := .slice (some ⟨w.heap.size + 1, 0, none⟩) 3 3) (HS0.out.below ((Below.refl _ _).alloc (Nat.le_refl _) (.cells #[.string ⟨#[102, 117, 110, 99]⟩, str nm, str rs] 9))) hr (by simp; omega) HWL6.out (by omega) h2)
  have HO1 := Lib.hid (HO.out.alloc (.cells #[.string ⟨#[102, 117, 110, 99]⟩, str nm, str rs] 9))
  clear hr hbsW
  go_wp2_with fail
  rw [HW.out]
  refine QL.out.mono ?_
  rintro e w7 ⟨rfl, hp, hk7⟩
  have HP7 := Lib.hid hp
  have HO7 := Lib.hid (hk7 _ _ _ HO1.out (by decide) (by decide) (by decide))
  have g2 := HO7.out.cell 2
  have g3 := HO7.out.cell 3
  simp only [List.getElem?_cons_succ, List.getElem?_cons_zero] at g2 g3
  clear hp hk7
  have HV7 := Lib.hid (Vars.move (Still.of_below (HP7.out.2.1.mono HH.out)) KP.out)
  go_wp2_with fail
  refine (Laid.vars HP7.out kParam ⟨#[112, 97, 114, 97, 109]⟩ rfl HV7.out HH.out HLN7.out HWL7.out (by omega) h2).mono ?_
  rintro e w8 ⟨rfl, hp, hk8⟩
  have HP8 := Lib.hid hp
  have HO8 := Lib.hid (hk8 _ _ _ HO7.out (by decide) (by decide) (by decide))
  clear g2 g3
  have g3 := HO8.out.cell 3
  simp only [List.getElem?_cons_succ, List.getElem?_cons_zero] at g3
  have HV8 := Lib.hid (Vars.move (Still.of_below (HP8.out.2.1.mono HH.out)) KV.out)
  clear hp hk8
  go_wp2_with fail
  refine (Laid.vars HP8.out kVar ⟨#[118, 97, 114]⟩ rfl HV8.out HH.out HLN8.out HWL8.out (by omega) h2).mono ?_
  rintro e w9 ⟨rfl, hp, hk9⟩
  have HP9 := Lib.hid hp
  have HO9 := Lib.hid (hk9 _ _ _ HO8.out (by decide) (by decide) (by decide))
  clear g3
  have g4 := HO9.out.cell 4
  simp only [List.getElem?_cons_succ, List.getElem?_cons_zero] at g4
  clear hp hk9
  go_wp2_with fail
  clear g4 HO7 HO8 HO9 HV7 HV8 HP7 HP8 HLN7 HLN8 HWL7 HWL8 HWL6 QL HO1 HO HS0 KP KV HW
  go_loopw [30] (fun i wr => ∃ k : Nat, k ≤ bl.length ∧ i = .int .i64 k ∧ Hid (Laid base lb fb w ls left (headF nm rs ps vs ++ (bl.take k).flatMap blockLs) wr)) (fun i _ => bl.length - (intOf i).toNat)
  case atStart => exact ⟨0, Nat.zero_le _, rfl, Lib.hid (by simpa using HP9.out)⟩
  case round =>
  obtain ⟨k, hk, rfl, HP⟩ := hrel
  by_cases hlt : k < bl.length
  · obtain ⟨⟨bn, phs, cod, ⟨tk, ⟨ak, as_, an⟩, td, tn⟩⟩, hf⟩ : ∃ y, bl[k]? = some y := ⟨_, List.getElem?_eq_getElem hlt⟩
    obtain ⟨rfl, _, hb1⟩ := HA3.out (by omega)
    obtain ⟨cs, _, q1, hbc⟩ := HC3.out k _ hf
    have hmem := List.mem_of_getElem? hf
    obtain ⟨rP, rC, rF⟩ := block_parts (HR.out _ hmem)
    obtain ⟨iP, iC, iF⟩ := HI.out _ hmem
    obtain ⟨y1, y2, cs3, rfl, hy1, hy2, y3, hcs3, hy3⟩ := hbc
    subst hcs3
    simp only at hy1 hy2 hy3 q1 rP rC rF iP iC iF
    obtain ⟨C1, l1, rfl⟩ := hy1.form
    obtain ⟨C2, l2, rfl⟩ := hy2.form
    obtain ⟨C3, l3, rfl⟩ := hy3.form
    obtain ⟨n0, n1, n2, n3, n4, n5, n6, n7, n8⟩ := at9 (cells_later q1 HP.out.2.1 (show b3 < base by have := HH.out; omega))
    obtain ⟨W1, hW1⟩ : ∃ W1, wr.alloc (.cells #[str bn, .slice C1 phs.length l1, .slice C2 cod.length l2, i64 tk, i64 ak, str as_, i64 an, .slice C3 td.length l3, i64 tn] 60) = W1 := ⟨_, rfl⟩
    have hO1 : Own W1 wr.heap.size 60 [str bn, .slice C1 phs.length l1, .slice C2 cod.length l2, i64 tk, i64 ak, str as_, i64 an, .slice C3 td.length l3, i64 tn] := by rw [← hW1]; exact Own.made wr _ [str bn, .slice C1 phs.length l1, .slice C2 cod.length l2, i64 tk, i64 ak, str as_, i64 an, .slice C3 td.length l3, i64 tn]
    have hb1W : Below wr.heap.size wr W1 := by rw [← hW1]; exact (Below.refl _ _).alloc (Nat.le_refl _) _
    obtain ⟨g, hg⟩ : ∃ g, wr.heap.size = g := ⟨_, rfl⟩
    have hz1 : W1.heap.size = g + 1 := by rw [← hW1, ← hg]; simp
    have HLW := Lib.hid (HP.out.below hb1W)
    obtain ⟨Pb, hPb⟩ : ∃ Pb, headF nm rs ps vs ++ (bl.take k).flatMap blockLs = Pb := ⟨_, rfl⟩
    have hpre : Pb ++ blockLs ⟨bn, phs, cod, ⟨tk, ⟨ak, as_, an⟩, td, tn⟩⟩ <+: headF nm rs ps vs ++ bl.flatMap blockLs := by rw [← hPb, List.append_assoc]; exact ahead_pre _ (flat_pre blockLs hf)
    have hpw : ∀ A, A <+: Pb ++ blockLs ⟨bn, phs, cod, ⟨tk, ⟨ak, as_, an⟩, td, tn⟩⟩ → (wls A ≤ 137438953472 ∧ A.length ≤ 137438953472) ∧ A <+: headF nm rs ps vs ++ bl.flatMap blockLs := fun A hA =>
      ⟨⟨Nat.le_trans (pre_w (hA.trans hpre)) HT.out, Nat.le_trans (pre_n (hA.trans hpre)) HN.out⟩, hA.trans hpre⟩
    have hend : (bl.take (k + 1)).flatMap blockLs = (bl.take k).flatMap blockLs ++ blockLs ⟨bn, phs, cod, ⟨tk, ⟨ak, as_, an⟩, td, tn⟩⟩ := by rw [LinesM.take_next hf, List.flatMap_append]; simp
    have HEND : Hid (headF nm rs ps vs ++ (bl.take (k + 1)).flatMap blockLs = Pb ++ blockLs ⟨bn, phs, cod, ⟨tk, ⟨ak, as_, an⟩, td, tn⟩⟩) := Lib.hid (by rw [hend, ← List.append_assoc, hPb])
    rw [hPb] at HLW
    have hbase : base ≤ W1.heap.size := HLW.out.size
    have hr := made_row (base := base) (g := g + 1) (w := W1) [.string ⟨#[98, 108, 111, 99, 107]⟩, str bn] [kBlock, bn] rfl hz1.symm hbase (by simp [LinesM.strs, kBlock]) (by simp)
    have HPW := Lib.hid hpw
    obtain ⟨hk1, hk2⟩ := (hpw _ (blk1 Pb bn phs cod ⟨tk, ⟨ak, as_, an⟩, td, tn⟩)).1
    rw [List.length_append] at hk2
    have QL := Lib.hid (Laid.more (v := .slice (some ⟨g + 1, 0, none⟩) 2 2) (HLW.out.below ((Below.refl _ _).alloc (Nat.le_refl _) (.cells #[.string ⟨#[98, 108, 111, 99, 107]⟩, str bn] 9))) hr (by omega) (by omega) (by omega) h2)
    have HOW := Lib.hid ((hg ▸ hO1).alloc (.cells #[.string ⟨#[98, 108, 111, 99, 107]⟩, str bn] 9))
    have HW1 := Lib.hid hW1
    have HG := Lib.hid hg
    have HY1 := Lib.hid hy1
    have HY2 := Lib.hid hy2
    have HY3 := Lib.hid hy3
    have RP := Lib.hid rP
    have RC := Lib.hid rC
    have RF := Lib.hid rF
    have IP := Lib.hid iP
    have IC := Lib.hid iC
    have IF := Lib.hid iF
    clear hO1 hb1W hW1 hPb hpre hpw hend hbase hr hk1 hk2 hy1 hy2 hy3 rP rC rF iP iC iF hmem hf q1 hg
    go_wp2_with fail
    rw [HW1.out, HG.out]
    refine QL.out.mono ?_
    rintro e w10 ⟨rfl, hp, hk10⟩
    have HP10 := Lib.hid hp
    have HO10 := Lib.hid (hk10 _ _ _ HOW.out (by decide) (by decide) (by decide))
    have p1 := HO10.out.cell 1
    simp only [List.getElem?_cons_succ, List.getElem?_cons_zero] at p1
    clear hp hk10 QL HOW HLW HW1 n0 n1 n2 n3 n4 n5 n6 n7 n8
    go_wp2_with fail
    clear p1
    go_loopw [42] (fun i wr => ∃ j : Nat, j ≤ phs.length ∧ i = .int .i64 j ∧ Hid (Laid base lb fb w ls left ((Pb ++ [[kBlock, bn]]) ++ (phs.take j).map phiL) wr) ∧ Hid (Own wr g 60 [str bn, .slice C1 phs.length l1, .slice C2 cod.length l2, i64 tk, i64 ak, str as_, i64 an, .slice C3 td.length l3, i64 tn])) (fun i _ => phs.length - (intOf i).toNat)
    case atStart => exact ⟨0, Nat.zero_le _, rfl, Lib.hid (by simpa using HP10.out), HO10⟩
    case round =>
    obtain ⟨j, hj, rfl, HQ, HOq⟩ := hrel
    by_cases hlj : j < phs.length
    · obtain ⟨⟨pd, pi⟩, hf⟩ : ∃ y, phs[j]? = some y := ⟨_, List.getElem?_eq_getElem hlj⟩
      obtain ⟨b4, f4, hn4, hm4, a4, j4⟩ := HY1.out.get
      obtain ⟨rfl, _, hb4⟩ := a4 (by omega)
      obtain ⟨cs4, _, q4, hfc⟩ := j4 j _ hf
      have hmem := List.mem_of_getElem? hf
      have hf0 := hfc
      obtain ⟨u, rfl, hbf⟩ := hfc
      obtain ⟨B4, c4, rfl⟩ := hbf.form
      clear hbf
      obtain ⟨n0, n1⟩ := at2 (cells_later q4 HQ.out.2.1 (show b4 < base by have := HH.out; omega))
      simp only at hf0 n0 n1
      have hbx : Below wr.heap.size wr (wr.alloc (.cells #[str pd, .slice B4 pi.length c4] 63)) := (Below.refl _ _).alloc (Nat.le_refl _) _
      have HL8 := Lib.hid (HQ.out.below hbx)
      have HO8 := Lib.hid (HOq.out.below hbx HOq.out.lt)
      have QF := Lib.hid (phiWords_any lo hi _ _ ⟨pd, pi⟩ (PhiC.move (Still.of_below (HL8.out.2.1.mono HH.out)) hf0) (Nat.le_trans HH.out HL8.out.size) (IP.out _ hmem) (phi_ins (RP.out _ hmem)))
      obtain ⟨⟨hk1, hk2⟩, _⟩ := HPW.out _ (blk2 Pb bn phs cod ⟨tk, ⟨ak, as_, an⟩, td, tn⟩ hf)
      have e1 : ((Pb ++ [[kBlock, bn]]) ++ (phs.take j).map phiL) ++ [phiL ⟨pd, pi⟩] = (Pb ++ [[kBlock, bn]]) ++ (phs.take (j + 1)).map phiL := by rw [LinesM.take_next hf, List.map_append, List.append_assoc]; rfl
      have HT2 : Hid (wls (((Pb ++ [[kBlock, bn]]) ++ (phs.take j).map phiL) ++ [phiL ⟨pd, pi⟩]) ≤ 1099511627776) := Lib.hid (by omega)
      rw [List.length_append] at hk2
      have HLN : Hid (ls.length + ((Pb ++ [[kBlock, bn]]) ++ (phs.take j).map phiL).length ≤ 1099511627776) := Lib.hid (by omega)
      have HE1 := Lib.hid e1
      clear hk1 hk2 e1 hbx hf0 hmem hf q4 a4 j4
      go_wp2_with (first
        | ((with_reducible refine QF.out.mono ?_); rintro e w11 ⟨v9, rfl, ho9, hb9⟩; have HL9 := Lib.hid (HL8.out.below hb9); have HR9 := Lib.hid (LinesM.own_lower ho9 HL8.out.size); have HO9 := Lib.hid (HO8.out.below hb9 HO8.out.lt); clear ho9 hb9)
        | ((with_reducible refine (Laid.more HL9.out HR9.out HLN.out HT2.out (by omega) h2).mono ?_); rintro e w12 ⟨rfl, hp, hk12⟩; have HP12 := Lib.hid hp; have HO12 := Lib.hid (hk12 _ _ _ HO9.out (by decide) (by decide) (by decide)); clear hp hk12))
      go_roundw
      case rel => exact ⟨j + 1, by omega, by go_num, Lib.hid (by rw [← HE1.out]; exact HP12.out), HO12⟩
      case measure => simp [intOf]; omega
    · have hkn : phs.take j = phs := List.take_of_length_le (by omega)
      rw [hkn] at HQ
      have p2 := HOq.out.cell 2
      simp only [List.getElem?_cons_succ, List.getElem?_cons_zero] at p2
      go_wp2_with fail
      clear p2 hkn HP10 HO10 hlj hj
      go_loopw [54] (fun i wr => ∃ j : Nat, j ≤ cod.length ∧ i = .int .i64 j ∧ Hid (Laid base lb fb w ls left (((Pb ++ [[kBlock, bn]]) ++ phs.map phiL) ++ (cod.take j).flatMap instrLs) wr) ∧ Hid (Own wr g 60 [str bn, .slice C1 phs.length l1, .slice C2 cod.length l2, i64 tk, i64 ak, str as_, i64 an, .slice C3 td.length l3, i64 tn])) (fun i _ => cod.length - (intOf i).toNat)
      case atStart => exact ⟨0, Nat.zero_le _, rfl, Lib.hid (by simpa using HQ.out), HOq⟩
      case round =>
      clear HQ HOq
      obtain ⟨j, hj, rfl, HQ, HOq⟩ := hrel
      by_cases hlj : j < cod.length
      · obtain ⟨z, hf⟩ : ∃ y, cod[j]? = some y := ⟨_, List.getElem?_eq_getElem hlj⟩
        obtain ⟨b4, f4, hn4, hm4, a4, j4⟩ := HY2.out.get
        obtain ⟨rfl, _, hb4⟩ := a4 (by omega)
        obtain ⟨cs4, _, q4, hfc⟩ := j4 j _ hf
        have hmem := List.mem_of_getElem? hf
        have hf0 := hfc
        obtain ⟨x1, x2, x3, e1', ha1, ha2, ha3⟩ := hfc
        subst e1'
        obtain ⟨D1, d1, rfl⟩ := ha1.form
        obtain ⟨D2, d2, rfl⟩ := ha2.form
        obtain ⟨D3, d3, rfl⟩ := ha3.form
        clear ha1 ha2 ha3
        obtain ⟨n0, n1, n2, n3, n4, n5⟩ := at6 (cells_later q4 HQ.out.2.1 (show b4 < base by have := HH.out; omega))
        obtain ⟨W2, hW2⟩ : ∃ W2, wr.alloc (.cells #[i64 z.op, str z.dst, str z.name, .slice D1 z.args.length d1, .slice D2 z.frames.length d2, .slice D3 z.objs.length d3] 72) = W2 := ⟨_, rfl⟩
        have hO2 : Own W2 wr.heap.size 72 [i64 z.op, str z.dst, str z.name, .slice D1 z.args.length d1, .slice D2 z.frames.length d2, .slice D3 z.objs.length d3] := by rw [← hW2]; exact Own.made wr _ [i64 z.op, str z.dst, str z.name, .slice D1 z.args.length d1, .slice D2 z.frames.length d2, .slice D3 z.objs.length d3]
        have hbx : Below wr.heap.size wr W2 := by rw [← hW2]; exact (Below.refl _ _).alloc (Nat.le_refl _) _
        have HL8 := Lib.hid (HQ.out.below hbx)
        have HO8 := Lib.hid (HOq.out.below hbx HOq.out.lt)
        obtain ⟨⟨hk1, hk2⟩, hk3⟩ := HPW.out _ (blk3 Pb bn phs cod ⟨tk, ⟨ak, as_, an⟩, td, tn⟩ hf)
        have e1 : (((Pb ++ [[kBlock, bn]]) ++ phs.map phiL) ++ (cod.take j).flatMap instrLs) ++ instrLs z = ((Pb ++ [[kBlock, bn]]) ++ phs.map phiL) ++ (cod.take (j + 1)).flatMap instrLs := by rw [LinesM.take_next hf, List.flatMap_append, List.append_assoc]; simp
        have hT2 : wls ((((Pb ++ [[kBlock, bn]]) ++ phs.map phiL) ++ (cod.take j).flatMap instrLs) ++ instrLs z) ≤ 549755813888 := by omega
        have hk4 := pre_n (List.prefix_append (((Pb ++ [[kBlock, bn]]) ++ phs.map phiL) ++ (cod.take j).flatMap instrLs) (instrLs z))
        have hLN : ls.length + (((Pb ++ [[kBlock, bn]]) ++ phs.map phiL) ++ (cod.take j).flatMap instrLs).length ≤ 549755813888 := by omega
        have hpre : ((Pb ++ [[kBlock, bn]]) ++ phs.map phiL) ++ (cod.take j).flatMap instrLs <+: headF nm rs ps vs ++ bl.flatMap blockLs := (List.prefix_append _ (instrLs z)).trans hk3
        have HPRE := Lib.hid hpre
        have HE1 := Lib.hid e1
        have HW2 := Lib.hid hW2
        have QF := full_any W2 fb _ HL8.out.left
        have QI := Lib.hid (Laid.instr HL8.out (InstrC.move (Still.of_below (HL8.out.2.1.mono HH.out)) hf0) HH.out (HL.out.of_block (HL8.out.2.1.block _ hg0)) (RC.out _ hmem) (IC.out _ hmem) hLN hT2 (by omega) h2)
        have g0 := hO2.cell 0
        have g1 := hO2.cell 1
        have g2 := hO2.cell 2
        have g3 := hO2.cell 3
        have g4 := hO2.cell 4
        have g5 := hO2.cell 5
        simp only [List.getElem?_cons_succ, List.getElem?_cons_zero] at g0 g1 g2 g3 g4 g5
        clear hk1 hk2 hk3 hk4 e1 hbx hf0 hmem hf q4 a4 j4 hpre hT2 hLN hW2 hO2
        by_cases hful : left - (wls (((Pb ++ [[kBlock, bn]]) ++ phs.map phiL) ++ (cod.take j).flatMap instrLs) : Nat) < 0
        · rw [decide_eq_true hful] at QF
          have QF2 := Lib.hid QF
          have HFU := Lib.hid hful
          clear QF hful
          go_wp2_with fail
          rw [HW2.out]
          refine QF2.out.mono ?_
          rintro e w11 ⟨rfl, hw11⟩
          obtain rfl := hw11
          go_wp2_with fail
          go_end0
          exact ⟨rfl, _, pre_w (HF.out ▸ HPRE.out), pre_n (HF.out ▸ HPRE.out), HL8.out, .inr HFU.out⟩
        · rw [decide_eq_false hful] at QF
          have QF2 := Lib.hid QF
          clear QF hful
          go_wp2_with fail
          rw [HW2.out]
          refine QF2.out.mono ?_
          rintro e w11 ⟨rfl, hw11⟩
          obtain rfl := hw11
          go_wp2_with fail
          refine QI.out.mono ?_
          rintro e w12 ⟨rfl, hp, hk12⟩
          have HP12 := Lib.hid hp
          have HO12 := Lib.hid (hk12 _ _ _ HO8.out (by decide) (by decide) (by decide))
          clear hp hk12 g0 g1 g2 g3 g4 g5
          go_wp2_with fail
          go_roundw
          case rel => exact ⟨j + 1, by omega, by go_num, Lib.hid (by rw [← HE1.out]; exact HP12.out), HO12⟩
          case measure => simp [intOf]; omega
      · have hkn : cod.take j = cod := List.take_of_length_le (by omega)
        rw [hkn] at HQ
        have p3 := HOq.out.cell 3
        have p4 := HOq.out.cell 4
        have p5 := HOq.out.cell 5
        have p6 := HOq.out.cell 6
        have p7 := HOq.out.cell 7
        have p8 := HOq.out.cell 8
        simp only [List.getElem?_cons_succ, List.getElem?_cons_zero] at p3 p4 p5 p6 p7 p8
        have hfin : finLs ⟨tk, ⟨ak, as_, an⟩, td, tn⟩ = [endL ⟨tk, ⟨ak, as_, an⟩, td, tn⟩] := finLs_of RF.out
        have e1 := blk4 Pb bn phs cod ⟨tk, ⟨ak, as_, an⟩, td, tn⟩ hfin
        obtain ⟨⟨hk1, hk2⟩, _⟩ := HPW.out _ (List.prefix_rfl)
        rw [← e1] at hk1 hk2
        rw [List.length_append] at hk2
        have QE := Lib.hid (endWords_any lo hi wr _ ⟨tk, ⟨ak, as_, an⟩, td, tn⟩ ⟨_, rfl, Texts.move (Still.of_below (HQ.out.2.1.mono HH.out)) HY3.out⟩ (Nat.le_trans HH.out HQ.out.size) IF.out RF.out)
        have HT2 : Hid (wls ((((Pb ++ [[kBlock, bn]]) ++ phs.map phiL) ++ cod.flatMap instrLs) ++ [endL ⟨tk, ⟨ak, as_, an⟩, td, tn⟩]) ≤ 1099511627776) := Lib.hid (by omega)
        have HLN : Hid (ls.length + (((Pb ++ [[kBlock, bn]]) ++ phs.map phiL) ++ cod.flatMap instrLs).length ≤ 1099511627776) := Lib.hid (by omega)
        have HE1 := Lib.hid e1
        clear hk1 hk2 e1 hfin hkn
        go_wp2_with fail
        refine QE.out.mono ?_
        rintro e w11 ⟨v9, rfl, ho9, hb9⟩
        have HL9 := Lib.hid (HQ.out.below hb9)
        have HR9 := Lib.hid (LinesM.own_lower ho9 HQ.out.size)
        clear ho9 hb9 p3 p4 p5 p6 p7 p8
        go_wp2_with fail
        refine (Laid.more HL9.out HR9.out HLN.out HT2.out (by omega) h2).mono ?_
        rintro e w12 ⟨rfl, hp, _⟩
        have HP12 := Lib.hid hp
        clear hp
        go_wp2_with fail
        go_roundw
        case rel => exact ⟨k + 1, by omega, by go_num, Lib.hid (by rw [HEND.out, ← HE1.out]; exact HP12.out)⟩
        case measure => simp [intOf]; omega
  · have hkn : bl.take k = bl := List.take_of_length_le (by omega)
    rw [hkn] at HP
    go_wp2_with fail
    go_end0
    exact ⟨rfl, _, by rw [HF.out]; exact Nat.le_refl _, by rw [HF.out]; exact Nat.le_refl _, HP.out, .inl HF.out.symm⟩
end Go.Proofs.YtdgmdpphimenjaaDoor.Sh6
