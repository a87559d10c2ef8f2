/-
  What is read is right, and its lines are as long as those that were read.
-/
import Derived.Test.YtkfpcaganhmkcaaDoorRound
namespace Go.Proofs.YtkfpcaganhmkcaaDoor.Rd5
open Go.RowKit Api Syn WordM Tree

variable {p p2 : Prog} {pl lg pl2 lg2 : Int} {l ws : List Wd}
/-! ### words -/
theorem name_inv {x : Wd} (h : takeName ws = some (x, l)) : ws = x :: l ∧ nameV x = true := by
  cases ws with
  | nil => cases h
  | cons y ws =>
    simp only [takeName] at h
    split at h
    · simp only [Option.some.injEq, Prod.mk.injEq] at h
      obtain ⟨rfl, rfl⟩ := h
      exact ⟨rfl, by assumption⟩
    · cases h
theorem kind_inv {x : Wd} (h : takeKind ws = some (x, l)) : ws = x :: l ∧ kindV x = true := by
  cases ws with
  | nil => cases h
  | cons y ws =>
    simp only [takeKind] at h
    split at h
    · simp only [Option.some.injEq, Prod.mk.injEq] at h
      obtain ⟨rfl, rfl⟩ := h
      exact ⟨rfl, by assumption⟩
    · cases h
theorem var_inv {v : Var} (h : takeVar ws = some (v, l)) : ws = v.name :: v.type :: l ∧ varR v = true := by
  unfold takeVar at h
  split at h
  · rename_i n l1 h1
    obtain ⟨rfl, hn⟩ := name_inv h1
    split at h
    · rename_i k l2 h2
      obtain ⟨rfl, hk⟩ := kind_inv h2
      simp only [Option.some.injEq, Prod.mk.injEq] at h
      obtain ⟨rfl, rfl⟩ := h
      exact ⟨rfl, by simp [varR, hn, hk]⟩
    · cases h
  · cases h
theorem num_inv {n : Int} (h : takeNum ws = some (n, l)) : ws = NumM.dec n :: l ∧ NumM.In n := by
  cases ws with
  | nil => cases h
  | cons y ws =>
    simp only [takeNum] at h
    split at h
    · rename_i hg
      simp only [Option.some.injEq, Prod.mk.injEq] at h
      obtain ⟨rfl, rfl⟩ := h
      obtain ⟨h1, h2⟩ := NumM.get_back y hg
      exact ⟨by rw [h2], h1⟩
    · cases h
theorem count_inv {n m : Int} (h : takeCount m ws = some (n, l)) : ws = NumM.dec n :: l ∧ 0 ≤ n ∧ n ≤ m := by
  unfold takeCount at h
  split at h
  · rename_i n1 l1 h1
    obtain ⟨rfl, hn⟩ := num_inv h1
    split at h
    · cases h
    · simp only [Option.some.injEq, Prod.mk.injEq] at h
      obtain ⟨rfl, rfl⟩ := h
      exact ⟨rfl, by omega, by omega⟩
  · cases h
theorem val_inv {a : Arg} (h : takeVal ws = some (a, l)) : ws = putA a :: l ∧ argR a = true ∧ argI a := by
  cases ws with
  | nil => cases h
  | cons y ws =>
    simp only [takeVal] at h
    split at h
    · rename_i hg
      simp only [Option.some.injEq, Prod.mk.injEq] at h
      obtain ⟨rfl, rfl⟩ := h
      have hg2 : (wget ⟨y.toArray⟩).2 = true := hg
      obtain ⟨h1, h2, h3⟩ := wget_back hg2
      have e : ofA (argV y).1 = (wget ⟨y.toArray⟩).1 := by
        unfold argV ofA
        simp only
      refine ⟨?_, ?_, h3⟩
      · unfold putA
        rw [e, h2]
      · unfold argR
        rw [e]
        exact h1
    · cases h
theorem arg_inv {a : Arg} (h : takeArg ws = some (a, l)) : ws = putA a :: l ∧ argX a = true ∧ argI a := by
  unfold takeArg at h
  split at h
  · rename_i a1 l1 h1
    obtain ⟨rfl, h2, h3⟩ := val_inv h1
    split at h
    · cases h
    · rename_i hk
      simp only [Option.some.injEq, Prod.mk.injEq] at h
      obtain ⟨rfl, rfl⟩ := h
      refine ⟨rfl, ?_, h3⟩
      unfold argX
      unfold argR at h2
      rw [h2]
      simp [hk]
  · cases h
theorem in_inv {b : Bind} (h : takeIn ws = some (b, l)) : ws = bindL b ++ l ∧ inR b = true ∧ argI b.a := by
  unfold takeIn at h
  split at h
  · rename_i n l1 h1
    obtain ⟨rfl, hn⟩ := name_inv h1
    split at h
    · rename_i k l2 h2
      obtain ⟨rfl, hk, hI⟩ := arg_inv h2
      simp only [Option.some.injEq, Prod.mk.injEq] at h
      obtain ⟨rfl, rfl⟩ := h
      exact ⟨rfl, by simp [inR, hn, hk], hI⟩
    · cases h
  · cases h
theorem bind_inv {b : Bind} (h : takeBind ws = some (b, l)) : ws = bindL b ++ l ∧ bindR b = true ∧ argI b.a := by
  unfold takeBind at h
  split at h
  · rename_i n l1 h1
    obtain ⟨rfl, hn⟩ := name_inv h1
    split at h
    · rename_i k l2 h2
      obtain ⟨rfl, hk, hI⟩ := val_inv h2
      simp only [Option.some.injEq, Prod.mk.injEq] at h
      obtain ⟨rfl, rfl⟩ := h
      exact ⟨rfl, by simp [bindR, hn, hk], hI⟩
    · cases h
  · cases h
theorem all_inv {β : Type} {take : List Wd → Option (β × List Wd)} {put : β → List Wd} {P : β → Prop} (hi : ∀ ws y l, take ws = some (y, l) → ws = put y ++ l ∧ P y) :
    ∀ (n : Nat) (ws : List Wd) (ys : List β), takeAll take n ws = some ys → ws = ys.flatMap put ∧ ∀ y ∈ ys, P y := by
  intro n
  induction n with
  | zero =>
    intro ws ys h
    cases ws with
    | nil => injection h with h; subst h; exact ⟨rfl, by simp⟩
    | cons x ws => cases h
  | succ n ih =>
    intro ws ys h
    cases ws with
    | nil => injection h with h; subst h; exact ⟨rfl, by simp⟩
    | cons x ws =>
      simp only [takeAll] at h
      cases ht : take (x :: ws) with
      | none => rw [ht] at h; cases h
      | some q =>
        obtain ⟨y, l⟩ := q
        rw [ht] at h
        simp only [Option.map_eq_some_iff] at h
        obtain ⟨ys2, h2, rfl⟩ := h
        obtain ⟨e, hp⟩ := hi _ _ _ ht
        obtain ⟨e2, hp2⟩ := ih _ _ h2
        refine ⟨by rw [e, e2]; rfl, fun z hz => ?_⟩
        rcases List.mem_cons.1 hz with rfl | hz
        · exact hp
        · exact hp2 z hz
theorem each_inv {take : List Wd → Option (Arg × List Wd)} {P : Arg → Prop} (hi : ∀ ws y l, take ws = some (y, l) → ws = putA y :: l ∧ P y) {n : Nat} {ys : List Arg} (h : takeAll take n ws = some ys) : ws = ys.map putA ∧ ∀ y ∈ ys, P y := by
  obtain ⟨e, hp⟩ := all_inv (put := fun a => [putA a]) hi n ws ys h
  refine ⟨?_, hp⟩
  rw [e, ← List.flatMap_singleton' (ys.map putA), List.flatMap_map]
theorem many_inv : ∀ (k : Nat) (ws : List Wd) (us : List Arg) (l : List Wd), takeN takeArg k ws = some (us, l) → ws = us.map putA ++ l ∧ us.length = k ∧ ∀ a ∈ us, argX a = true ∧ argI a := by
  intro k
  induction k with
  | zero =>
    intro ws us l h
    simp only [takeN, Option.some.injEq, Prod.mk.injEq] at h
    obtain ⟨rfl, rfl⟩ := h
    exact ⟨rfl, rfl, by simp⟩
  | succ k ih =>
    intro ws us l h
    simp only [takeN] at h
    cases h1 : takeArg ws with
    | none => rw [h1] at h; cases h
    | some q =>
      obtain ⟨a, l1⟩ := q
      rw [h1] at h
      simp only at h
      cases h2 : takeN takeArg k l1 with
      | none => rw [h2] at h; cases h
      | some q =>
        obtain ⟨us2, l2⟩ := q
        rw [h2] at h
        simp only [Option.some.injEq, Prod.mk.injEq] at h
        obtain ⟨rfl, rfl⟩ := h
        obtain ⟨rfl, hx, hI⟩ := arg_inv h1
        obtain ⟨rfl, hl, ha⟩ := ih _ _ _ h2
        refine ⟨rfl, by simp [hl], fun z hz => ?_⟩
        rcases List.mem_cons.1 hz with rfl | hz
        · exact ⟨hx, hI⟩
        · exact ha z hz

/-! ### what has been read -/
def FnOk (f : Api.Func) : Prop := funcR f = true ∧ funcI f
def HeadOk (n r : Wd) (ps vs : List Var) : Prop := nameV n = true ∧ kindV r = true ∧ allR 6 varR ps = true ∧ allR 1024 varR vs = true
def BlkOk (b : Api.Block) : Prop := nameV b.name = true ∧ (∀ x ∈ b.phis, phiR x = true ∧ phiI x) ∧ ∀ i ∈ b.code, instrR i = true ∧ instrI i
inductive Stage : List Api.Func → Int → Int → Prop
  | out {us : List Api.Func} {pl lg : Int} : (pl = 1 ∨ pl = 2 ∨ pl = 4) → us.length ≤ 8 → (∀ f ∈ us, FnOk f) → Stage us pl lg
  | head {u : List Api.Func} {n r : Wd} {ps vs : List Var} {pl : Int} : (pl = 8 ∨ pl = 16) → u.length < 8 → (∀ f ∈ u, FnOk f) → HeadOk n r ps vs → Stage (u ++ [⟨n, r, ps, vs, []⟩]) pl 0
  | body {u : List Api.Func} {n r : Wd} {ps vs : List Var} {bs : List Api.Block} {b : Api.Block} {pl lg : Int} : (pl = 32 ∨ pl = 64 ∨ pl = 128 ∨ pl = 256) → u.length < 8 → (∀ f ∈ u, FnOk f) → HeadOk n r ps vs →
      bs.length < 256 → (∀ x ∈ bs, blockR x = true ∧ blockI x) → BlkOk b → b.fin = termZ → lg = (longF bs : Int) + (longB b : Int) → lg ≤ 1024 →
      (128 ≤ pl → ∃ k i, b.code = k ++ [i] ∧ (i.op = 31 ∨ i.op = 34)) → Stage (u ++ [⟨n, r, ps, vs, bs ++ [b]⟩]) pl lg
  | done {u : List Api.Func} {f : Api.Func} {lg : Int} : u.length < 8 → (∀ g ∈ u, FnOk g) → FnOk f → lg = (longF f.blocks : Int) → Stage (u ++ [f]) 512 lg
theorem spot {us : List Api.Func} (hs : Stage us pl lg) : pl = 1 ∨ pl = 2 ∨ pl = 4 ∨ pl = 8 ∨ pl = 16 ∨ pl = 32 ∨ pl = 64 ∨ pl = 128 ∨ pl = 256 ∨ pl = 512 := by
  cases hs with
  | out hp => omega
  | head hp => omega
  | body hp => rcases hp with rfl | rfl | rfl | rfl <;> simp
  | done => simp
structure Open (p : Prog) (pl lg : Int) : Prop where
  c : allR 8 classR p.classes = true
  g : allR 8 varR p.globals = true
  e : allR 8 externR p.externs = true
  cls : (pl = 4 → p.classes ≠ []) ∧ (pl = 1 → p.ssa = false)
  st : Stage p.funcs pl lg
theorem Open.start : Open ⟨false, [], [], [], []⟩ 1 0 := ⟨by decide, by decide, by decide, ⟨by decide, fun _ => rfl⟩, .out (.inl rfl) (by simp) (by simp)⟩
theorem Stage.outs {us : List Api.Func} (h : Stage us pl lg) (hs : stB pl 519 = true) : us.length ≤ 8 ∧ ∀ f ∈ us, FnOk f := by
  cases h with
  | out _ h1 h2 => exact ⟨h1, h2⟩
  | head hp => rcases hp with rfl | rfl <;> exact absurd hs (by decide)
  | body hp => rcases hp with rfl | rfl | rfl | rfl <;> exact absurd hs (by decide)
  | done h1 h2 h3 =>
    refine ⟨by simp; omega, fun f hf => ?_⟩
    rcases List.mem_append.1 hf with hf | hf
    · exact h2 f hf
    · rw [List.mem_singleton.1 hf]; exact h3
/-- all is right, where a text may end. -/
theorem Open.right (h : Open p pl lg) (hs : stB pl 519 = true) : progR p = true ∧ progI p := by
  obtain ⟨h1, h2⟩ := h.st.outs hs
  refine ⟨?_, fun f hf => (h2 f hf).2⟩
  unfold progR
  rw [h.c, h.g, h.e]
  simp only [allR, Bool.true_and, Bool.and_eq_true, decide_eq_true_eq, List.all_eq_true]
  exact ⟨h1, fun f hf => (h2 f hf).1⟩
def wls (L : List (List Wd)) : Nat := (L.map LinesM.wlen).sum
def wp (p : Prog) : Nat := wls (progLs p)
theorem wls_append (a b : List (List Wd)) : wls (a ++ b) = wls a + wls b := by simp [wls]
theorem wls_cons (a : List Wd) (b : List (List Wd)) : wls (a :: b) = LinesM.wlen a + wls b := by simp [wls]
theorem wls_nil : wls [] = 0 := rfl
theorem wls_map {α : Type} (f : α → List Wd) (l : List α) (x : α) : wls ((l ++ [x]).map f) = wls (l.map f) + LinesM.wlen (f x) := by
  simp [wls]
theorem wls_flat {α : Type} (f : α → List (List Wd)) (l : List α) (x : α) : wls ((l ++ [x]).flatMap f) = wls (l.flatMap f) + wls (f x) := by
  rw [List.flatMap_append, List.flatMap_singleton, wls_append]
theorem wp_eq (p : Prog) : wp p = wls (if p.ssa then [[kSsa]] else []) + (wls (p.classes.flatMap classLs) + (wls (p.globals.map (varL kGlobal)) + (wls (p.externs.map externL) + wls (p.funcs.flatMap funcLs)))) := by
  unfold wp progLs
  simp only [wls_append]
theorem wf_eq (f : Api.Func) : wls (funcLs f) = LinesM.wlen [kFunc, f.name, f.result] + (wls (f.params.map (varL kParam)) + (wls (f.vars.map (varL kVar)) + wls (f.blocks.flatMap blockLs))) := by
  unfold funcLs
  simp only [wls_append, wls_cons]
theorem wb_eq (b : Api.Block) : wls (blockLs b) = LinesM.wlen [kBlock, b.name] + (wls (b.phis.map phiL) + (wls (b.code.flatMap instrLs) + wls (finLs b.fin))) := by
  unfold blockLs
  simp only [wls_append, wls_cons]
theorem wi_eq (i : Instr) : wls (instrLs i) = LinesM.wlen (instrL i) + (wls (i.frames.map frameL) + wls (i.objs.map virtL)) := by
  unfold instrLs
  simp only [wls_append, wls_cons]
theorem wc_eq (c : Class) : wls (classLs c) = LinesM.wlen [kClass, c.name] + wls (c.fields.map (varL kField)) := by
  unfold classLs
  simp only [wls_cons]
/-- What one line does to what has been read. -/
def Goes (p : Prog) (ws : List Wd) (p2 : Prog) (pl2 lg2 : Int) : Prop := Open p2 pl2 lg2 ∧ wp p2 = wp p + LinesM.wlen ws
theorem allR_snoc {α : Type} {f : α → Bool} {m : Nat} {l : List α} {x : α} (h : allR m f l = true) (hx : f x = true) (hl : l.length < m) : allR m f (l ++ [x]) = true := by
  simp only [allR, Bool.and_eq_true, decide_eq_true_eq, List.all_eq_true] at h ⊢
  refine ⟨by simp; omega, fun y hy => ?_⟩
  rcases List.mem_append.1 hy with hy | hy
  · exact h.2 y hy
  · rw [List.mem_singleton.1 hy]; exact hx
theorem allR_len {α : Type} {f : α → Bool} {m : Nat} {l : List α} (h : allR m f l = true) : l.length ≤ m := by
  simp only [allR, Bool.and_eq_true, decide_eq_true_eq] at h
  exact h.1
theorem allR_mem {α : Type} {f : α → Bool} {m : Nat} {l : List α} (h : allR m f l = true) : ∀ x ∈ l, f x = true := by
  simp only [allR, Bool.and_eq_true, List.all_eq_true] at h
  exact h.2
theorem of_not {b : Bool} (h : ¬ b = false) : b = true := by cases b <;> simp_all
theorem back_class (h : Open p pl lg) (e : classD p pl lg ws = some (p2, pl2, lg2, false, [])) : Goes p (kClass :: ws) p2 pl2 lg2 := by
  unfold classD at e
  split at e
  · cases e
  · rename_i hs
    have hs := of_not hs
    cases hn : takeName ws with
    | none => rw [hn] at e; cases e
    | some q =>
      obtain ⟨x, l⟩ := q
      rw [hn] at e
      simp only [Option.some.injEq, Prod.mk.injEq, decide_eq_false_iff_not] at e
      obtain ⟨rfl, rfl, rfl, hl, rfl⟩ := e
      obtain ⟨rfl, hx⟩ := name_inv hn
      obtain ⟨o1, o2⟩ := h.st.outs hs
      refine ⟨⟨allR_snoc h.c (by simp [classR, hx, allR]) (by omega), h.g, h.e, by simp, .out (.inr (.inr rfl)) o1 o2⟩, ?_⟩
      rw [wp_eq, wp_eq]
      simp only
      rw [wls_flat, wc_eq]
      simp only [List.map_nil, wls_nil]
      omega
theorem back_global (h : Open p pl lg) (e : globalD p pl lg ws = some (p2, pl2, lg2, false, [])) : Goes p (kGlobal :: ws) p2 pl2 lg2 := by
  unfold globalD at e
  split at e
  · cases e
  · rename_i hs
    have hs := of_not hs
    cases hn : takeVar ws with
    | none => rw [hn] at e; cases e
    | some q =>
      obtain ⟨x, l⟩ := q
      rw [hn] at e
      simp only [Option.some.injEq, Prod.mk.injEq, decide_eq_false_iff_not] at e
      obtain ⟨rfl, rfl, rfl, hl, rfl⟩ := e
      obtain ⟨rfl, hx⟩ := var_inv hn
      obtain ⟨o1, o2⟩ := h.st.outs hs
      refine ⟨⟨h.c, allR_snoc h.g hx (by omega), h.e, by simp, .out (.inr (.inl rfl)) o1 o2⟩, ?_⟩
      rw [wp_eq, wp_eq]
      simp only
      rw [wls_map]
      unfold varL
      omega
theorem back_extern (h : Open p pl lg) (e : externD p pl lg ws = some (p2, pl2, lg2, false, [])) : Goes p (kExtern :: ws) p2 pl2 lg2 := by
  unfold externD at e
  split at e
  · cases e
  · rename_i hs
    have hs := of_not hs
    cases hn : takeName ws with
    | none => rw [hn] at e; cases e
    | some q =>
      obtain ⟨x, l⟩ := q
      rw [hn] at e
      simp only at e
      cases hc : takeCount 8 l with
      | none => rw [hc] at e; cases e
      | some q =>
        obtain ⟨n, l⟩ := q
        rw [hc] at e
        simp only [Option.some.injEq, Prod.mk.injEq, decide_eq_false_iff_not] at e
        obtain ⟨rfl, rfl, rfl, hl, rfl⟩ := e
        obtain ⟨rfl, hx⟩ := name_inv hn
        obtain ⟨rfl, hc1, hc2⟩ := count_inv hc
        obtain ⟨o1, o2⟩ := h.st.outs hs
        refine ⟨⟨h.c, h.g, allR_snoc h.e (by simp [externR, hx, hc1, hc2]) (by omega), by simp, .out (.inr (.inl rfl)) o1 o2⟩, ?_⟩
        rw [wp_eq, wp_eq]
        simp only
        rw [wls_map]
        show _ + (_ + (_ + (_ + LinesM.wlen [kExtern, x, NumM.dec n] + _))) = _ + LinesM.wlen [kExtern, x, NumM.dec n]
        omega
theorem back_func (h : Open p pl lg) (e : funcD p pl lg ws = some (p2, pl2, lg2, false, [])) : Goes p (kFunc :: ws) p2 pl2 lg2 := by
  unfold funcD at e
  split at e
  · cases e
  · rename_i hs
    have hs := of_not hs
    cases hn : takeName ws with
    | none => rw [hn] at e; cases e
    | some q =>
      obtain ⟨x, l⟩ := q
      rw [hn] at e
      simp only at e
      cases hc : takeKind l with
      | none => rw [hc] at e; cases e
      | some q =>
        obtain ⟨n, l⟩ := q
        rw [hc] at e
        simp only [Option.some.injEq, Prod.mk.injEq, decide_eq_false_iff_not] at e
        obtain ⟨rfl, rfl, rfl, hl, rfl⟩ := e
        obtain ⟨rfl, hx⟩ := name_inv hn
        obtain ⟨rfl, hk⟩ := kind_inv hc
        obtain ⟨o1, o2⟩ := h.st.outs hs
        refine ⟨⟨h.c, h.g, h.e, by simp, .head (.inl rfl) (by omega) o2 ⟨hx, hk, by decide, by decide⟩⟩, ?_⟩
        rw [wp_eq, wp_eq]
        simp only
        rw [wls_flat, wf_eq]
        simp only [List.map_nil, wls_nil, List.flatMap_nil]
        omega
theorem back_field (h : Open p pl lg) (e : fieldD p pl lg ws = some (p2, pl2, lg2, false, [])) : Goes p (kField :: ws) p2 pl2 lg2 := by
  unfold fieldD at e
  split at e
  · cases e
  · rename_i hs
    have hs := of_not hs
    have hpl : pl = 4 := by
      rcases spot h.st with rfl | rfl | rfl | rfl | rfl | rfl | rfl | rfl | rfl | rfl <;> first | rfl | exact absurd hs (by decide)
    cases hn : takeVar ws with
    | none => rw [hn] at e; cases e
    | some q =>
      obtain ⟨x, l⟩ := q
      rw [hn] at e
      simp only [Option.some.injEq, Prod.mk.injEq, decide_eq_false_iff_not] at e
      obtain ⟨rfl, rfl, rfl, hl, rfl⟩ := e
      obtain ⟨rfl, hx⟩ := var_inv hn
      obtain ⟨s, c, g, ex, u⟩ := p
      have hc := h.c
      have hne := h.cls.1 hpl
      simp only at hc hne hl ⊢
      rcases List.eq_nil_or_concat c with rfl | ⟨c0, k, rfl⟩
      · exact absurd rfl hne
      rw [List.concat_eq_append] at hl hc hne ⊢
      rw [getD_snoc] at hl
      rw [last_snoc]
      have hk := allR_mem hc k (by simp)
      simp only [classR, Bool.and_eq_true] at hk
      refine ⟨⟨?_, h.g, h.e, ⟨by simp, by omega⟩, h.st⟩, ?_⟩
      · simp only [allR, Bool.and_eq_true, decide_eq_true_eq, List.all_eq_true]
        have := allR_len hc
        refine ⟨by simpa using this, fun y hy => ?_⟩
        rcases List.mem_append.1 hy with hy | hy
        · exact allR_mem hc y (by simp [hy])
        · rw [List.mem_singleton.1 hy]
          simp only [classR, Bool.and_eq_true]
          exact ⟨hk.1, allR_snoc hk.2 hx (by omega)⟩
      · rw [wp_eq, wp_eq]
        simp only
        rw [wls_flat, wls_flat, wc_eq, wc_eq]
        simp only
        rw [wls_map]
        unfold varL
        omega
theorem back_ssa (h : Open p pl lg) (e : ssaD p pl lg false ws = some (p2, pl2, lg2, false, [])) : Goes p (kSsa :: ws) p2 pl2 lg2 := by
  unfold ssaD at e
  split at e
  · cases e
  · rename_i hs
    have hs := of_not hs
    have hpl : pl = 1 := by
      rcases spot h.st with rfl | rfl | rfl | rfl | rfl | rfl | rfl | rfl | rfl | rfl <;> first | rfl | exact absurd hs (by decide)
    simp only [Option.some.injEq, Prod.mk.injEq] at e
    obtain ⟨rfl, rfl, rfl, -, rfl⟩ := e
    obtain ⟨o1, o2⟩ := h.st.outs (by rw [hpl]; decide)
    refine ⟨⟨h.c, h.g, h.e, by simp, .out (.inr (.inl rfl)) o1 o2⟩, ?_⟩
    rw [wp_eq, wp_eq]
    simp only
    rw [h.cls.2 hpl]
    show wls [[kSsa]] + _ = wls [] + _ + _
    rw [wls_cons, wls_nil]
    omega
theorem back_param (h : Open p pl lg) (e : paramD p pl lg ws = some (p2, pl2, lg2, false, [])) : Goes p (kParam :: ws) p2 pl2 lg2 := by
  unfold paramD at e
  split at e
  · cases e
  · rename_i hs
    have hs := of_not hs
    cases hn : takeVar ws with
    | none => rw [hn] at e; cases e
    | some q =>
      obtain ⟨x, l⟩ := q
      rw [hn] at e
      simp only [Option.some.injEq, Prod.mk.injEq, decide_eq_false_iff_not] at e
      obtain ⟨rfl, rfl, rfl, hl, rfl⟩ := e
      obtain ⟨rfl, hx⟩ := var_inv hn
      obtain ⟨s, c, g, ex, us⟩ := p
      have hst := h.st
      simp only at hst hl ⊢
      cases hst with
      | out hp => rcases hp with rfl | rfl | rfl <;> exact absurd hs (by decide)
      | body hp => rcases hp with rfl | rfl | rfl | rfl <;> exact absurd hs (by decide)
      | done => exact absurd hs (by decide)
      | @head u n r ps vs pl hp hu hf hh =>
        rw [getD_snoc] at hl
        rw [last_snoc]
        obtain ⟨h1, h2, h3, h4⟩ := hh
        refine ⟨⟨h.c, h.g, h.e, ⟨fun h => by omega, fun h => by omega⟩, .head hp hu hf ⟨h1, h2, allR_snoc h3 hx (show ps.length < 6 by replace hl : ¬ (6 : Int) < ((ps.length + 1 : Nat) : Int) := hl; omega), h4⟩⟩, ?_⟩
        rw [wp_eq, wp_eq]
        simp only
        rw [wls_flat, wls_flat, wf_eq, wf_eq]
        simp only
        rw [wls_map]
        unfold varL
        omega
theorem back_var (h : Open p pl lg) (e : varD p pl lg ws = some (p2, pl2, lg2, false, [])) : Goes p (kVar :: ws) p2 pl2 lg2 := by
  unfold varD at e
  split at e
  · cases e
  · rename_i hs
    have hs := of_not hs
    cases hn : takeVar ws with
    | none => rw [hn] at e; cases e
    | some q =>
      obtain ⟨x, l⟩ := q
      rw [hn] at e
      simp only [Option.some.injEq, Prod.mk.injEq, decide_eq_false_iff_not] at e
      obtain ⟨rfl, rfl, rfl, hl, rfl⟩ := e
      obtain ⟨rfl, hx⟩ := var_inv hn
      obtain ⟨s, c, g, ex, us⟩ := p
      have hst := h.st
      simp only at hst hl ⊢
      cases hst with
      | out hp => rcases hp with rfl | rfl | rfl <;> exact absurd hs (by decide)
      | body hp => rcases hp with rfl | rfl | rfl | rfl <;> exact absurd hs (by decide)
      | done => exact absurd hs (by decide)
      | @head u n r ps vs pl hp hu hf hh =>
        rw [getD_snoc] at hl
        rw [last_snoc]
        obtain ⟨h1, h2, h3, h4⟩ := hh
        refine ⟨⟨h.c, h.g, h.e, by simp, .head (.inr rfl) hu hf ⟨h1, h2, h3, allR_snoc h4 hx (show vs.length < 1024 by replace hl : ¬ (1024 : Int) < ((vs.length + 1 : Nat) : Int) := hl; omega)⟩⟩, ?_⟩
        rw [wp_eq, wp_eq]
        simp only
        rw [wls_flat, wls_flat, wf_eq, wf_eq]
        simp only
        rw [wls_map]
        unfold varL
        omega
theorem longB_new (x : Wd) : longB ⟨x, [], [], termZ⟩ = 0 := rfl
theorem wb_new (x : Wd) : wls (blockLs ⟨x, [], [], termZ⟩) = LinesM.wlen [kBlock, x] := by
  rw [wb_eq]
  simp only [List.map_nil, List.flatMap_nil, wls_nil]
  rw [show finLs termZ = [] from rfl, wls_nil]
  omega
theorem back_block (h : Open p pl lg) (e : blockD p pl lg ws = some (p2, pl2, lg2, false, [])) : Goes p (kBlock :: ws) p2 pl2 lg2 := by
  unfold blockD at e
  split at e
  · cases e
  · rename_i hs
    have hs := of_not hs
    cases hn : takeName ws with
    | none => rw [hn] at e; cases e
    | some q =>
      obtain ⟨x, l⟩ := q
      rw [hn] at e
      simp only [Option.some.injEq, Prod.mk.injEq, decide_eq_false_iff_not] at e
      obtain ⟨rfl, rfl, rfl, hl, rfl⟩ := e
      obtain ⟨rfl, hx⟩ := name_inv hn
      obtain ⟨s, c, g, ex, us⟩ := p
      have hst := h.st
      simp only at hst hl ⊢
      cases hst with
      | out hp => rcases hp with rfl | rfl | rfl <;> exact absurd hs (by decide)
      | body hp => rcases hp with rfl | rfl | rfl | rfl <;> exact absurd hs (by decide)
      | @head u n r ps vs pl hp hu hf hh =>
        rw [getD_snoc] at hl
        rw [last_snoc]
        refine ⟨⟨h.c, h.g, h.e, by simp, ?_⟩, ?_⟩
        · exact .body (bs := []) (.inl rfl) hu hf hh (by simp) (by simp) ⟨hx, by simp, by simp⟩ rfl (by simp [longF, longB]) (by omega) (by omega)
        · rw [wp_eq, wp_eq]
          simp only
          rw [wls_flat, wls_flat, wf_eq, wf_eq]
          simp only
          rw [wls_flat, wb_new]
          omega
      | @done u f lg hu hg hf hlg =>
        obtain ⟨n, r, ps, vs, bs⟩ := f
        rw [getD_snoc] at hl
        rw [last_snoc]
        have hfr := hf.1
        simp only [funcR, allR, Bool.and_eq_true, decide_eq_true_eq, List.all_eq_true] at hfr
        obtain ⟨h1, h2, h3, h5, ⟨h7, h8⟩, h9, h10⟩ := hfr
        have hI : ∀ b ∈ bs, blockI b := hf.2
        replace hl : ¬ (256 : Int) < ((bs.length + 1 : Nat) : Int) := hl
        replace hlg : lg = (longF bs : Int) := hlg
        refine ⟨⟨h.c, h.g, h.e, by simp, ?_⟩, ?_⟩
        · refine .body (.inl rfl) hu hg ⟨h1, h2, ?_, ?_⟩ (show bs.length < 256 by omega) (fun y hy => ⟨h10 y hy, hI y hy⟩) ⟨hx, by simp, by simp⟩ rfl (show lg = (longF bs : Int) + (longB ⟨x, [], [], termZ⟩ : Int) by rw [longB_new]; omega) (by replace h8 : longF bs ≤ 1024 := h8; omega) (by omega)
          · simp only [allR, Bool.and_eq_true, decide_eq_true_eq, List.all_eq_true]; exact h3
          · simp only [allR, Bool.and_eq_true, decide_eq_true_eq, List.all_eq_true]; exact h5
        · rw [wp_eq, wp_eq]
          simp only
          rw [wls_flat, wls_flat, wf_eq, wf_eq]
          simp only
          rw [wls_flat, wb_new]
          omega
theorem wlen_cons (x : Wd) (l : List Wd) : LinesM.wlen (x :: l) = x.length + 1 + LinesM.wlen l := by simp [LinesM.wlen]
section
variable {s : Bool} {c : List Class} {g : List Var} {e : List Extern} {u : List Api.Func} {n r : Wd} {ps vs : List Var} {bs : List Api.Block} {b b2 : Api.Block} {k : List Instr} {i : Instr}
theorem wp_cur (h : wls (blockLs b2) = wls (blockLs b) + LinesM.wlen ws) : wp (cur s c g e u n r ps vs bs b2) = wp (cur s c g e u n r ps vs bs b) + LinesM.wlen ws := by
  rw [wp_eq, wp_eq]
  simp only
  rw [wls_flat, wls_flat, wf_eq, wf_eq]
  simp only
  rw [wls_flat, wls_flat, h]
  omega
theorem lastB_cur : lastB (cur s c g e u n r ps vs bs b) = bs ++ [b] := by
  show ((u ++ [_]).getLast?.getD funcZ).blocks = bs ++ [b]
  rw [getD_snoc]
end
/-- where a line of a block may stand. -/
theorem Open.inner (h : Open p pl lg) (hs : stB pl 480 = true) : ∃ u n r ps vs bs b, p = cur p.ssa p.classes p.globals p.externs u n r ps vs bs b ∧ (pl = 32 ∨ pl = 64 ∨ pl = 128 ∨ pl = 256) ∧ u.length < 8 ∧ (∀ f ∈ u, FnOk f) ∧ HeadOk n r ps vs ∧
    bs.length < 256 ∧ (∀ x ∈ bs, blockR x = true ∧ blockI x) ∧ BlkOk b ∧ b.fin = termZ ∧ lg = (longF bs : Int) + (longB b : Int) ∧ lg ≤ 1024 ∧
      (128 ≤ pl → ∃ k i, b.code = k ++ [i] ∧ (i.op = 31 ∨ i.op = 34)) := by
  obtain ⟨s, c, g, e, us⟩ := p
  have hst := h.st
  simp only at hst ⊢
  cases hst with
  | out hp => rcases hp with rfl | rfl | rfl <;> exact absurd hs (by decide)
  | head hp => rcases hp with rfl | rfl <;> exact absurd hs (by decide)
  | done => exact absurd hs (by decide)
  | body h1 h2 h3 h4 h5 h6 h7 h8 h9 h10 h11 => exact ⟨_, _, _, _, _, _, _, rfl, h1, h2, h3, h4, h5, h6, h7, h8, h9, h10, h11⟩
theorem back_end {t : Api.Term} (h : Open p pl lg) (hR : finR t = true) (hI : finI t) (e : endD p pl lg false t l = some (p2, pl2, lg2, false, [])) : l = [] ∧ Goes p (endL t) p2 pl2 lg2 := by
  unfold endD at e
  split at e
  · cases e
  · rename_i hs
    have hs := of_not hs
    simp only [Option.some.injEq, Prod.mk.injEq] at e
    obtain ⟨rfl, rfl, rfl, -, rfl⟩ := e
    refine ⟨rfl, ?_⟩
    obtain ⟨u, n, r, ps, vs, bs, b, hp, hpl, hu, hf, hh, hb, hbs, hbk, hfin, hlg, hmax, _⟩ := h.inner hs
    have hc := h.c
    have hg := h.g
    have he := h.e
    generalize p.ssa = s at hp
    generalize p.classes = c at hp hc
    generalize p.globals = g at hp hg
    generalize p.externs = ex at hp he
    subst hp
    have e1 : finP (cur s c g ex u n r ps vs bs b) t = cur s c g ex u n r ps vs bs { b with fin := t } := inB_cur fun b => { b with fin := t }
    rw [e1]
    obtain ⟨h1, h2, h3⟩ := hbk
    have hbR : blockR { b with fin := t } = true := by
      simp only [blockR, allR, Bool.and_eq_true, decide_eq_true_eq, List.all_eq_true]
      unfold longB at hlg
      exact ⟨h1, ⟨by omega, fun x hx => (h2 x hx).1⟩, ⟨by omega, fun x hx => (h3 x hx).1⟩, hR⟩
    have hbI : blockI { b with fin := t } := ⟨fun x hx => (h2 x hx).2, fun x hx => (h3 x hx).2, hI⟩
    have hall : ∀ x ∈ bs ++ [{ b with fin := t }], blockR x = true ∧ blockI x := by
      intro x hx
      rcases List.mem_append.1 hx with hx | hx
      · exact hbs x hx
      · rw [List.mem_singleton.1 hx]; exact ⟨hbR, hbI⟩
    have hlong : longF (bs ++ [{ b with fin := t }]) = longF bs + longB b := by simp [longF, longB]
    obtain ⟨k1, k2, k3, k4⟩ := hh
    refine ⟨⟨hc, hg, he, by simp, .done hu hf ⟨?_, fun x hx => (hall x hx).2⟩ ?_⟩, wp_cur ?_⟩
    · simp only [funcR, Bool.and_eq_true, decide_eq_true_eq]
      refine ⟨k1, k2, k3, k4, ⟨by simp, by omega⟩, ?_⟩
      simp only [allR, Bool.and_eq_true, decide_eq_true_eq, List.all_eq_true]
      exact ⟨by simp; omega, fun x hx => (hall x hx).1⟩
    · simp only
      rw [hlong]
      omega
    · rw [wb_eq, wb_eq, finLs_of hR, hfin]
      rw [show finLs termZ = [] from rfl]
      simp only [wls_cons, wls_nil]
      omega
theorem back_jump (h : Open p pl lg) (e : jumpD p pl lg false ws = some (p2, pl2, lg2, false, [])) : Goes p (kJump :: ws) p2 pl2 lg2 := by
  unfold jumpD at e
  cases hn : takeName ws with
  | none => rw [hn] at e; cases e
  | some q =>
    obtain ⟨x, l⟩ := q
    rw [hn] at e
    obtain ⟨rfl, hx⟩ := name_inv hn
    obtain ⟨rfl, hg⟩ := back_end h (by simp [finR, destsR, hx, argN, argZ]) ⟨by show NumM.In 0; unfold NumM.In; omega, by show NumM.In 0; unfold NumM.In; omega⟩ e
    exact hg
theorem back_ret (h : Open p pl lg) (e : retD p pl lg false ws = some (p2, pl2, lg2, false, [])) : Goes p (kRet :: ws) p2 pl2 lg2 := by
  unfold retD at e
  cases hn : takeArg ws with
  | none => rw [hn] at e; cases e
  | some q =>
    obtain ⟨x, l⟩ := q
    rw [hn] at e
    obtain ⟨rfl, hx, hI⟩ := arg_inv hn
    obtain ⟨rfl, hg⟩ := back_end h (by simp [finR, destsR, hx]) ⟨hI, by show NumM.In 0; unfold NumM.In; omega⟩ e
    exact hg
theorem back_trap (h : Open p pl lg) (e : trapD p pl lg false ws = some (p2, pl2, lg2, false, [])) : Goes p (kTrap :: ws) p2 pl2 lg2 := by
  unfold trapD at e
  cases hn : takeNum ws with
  | none => rw [hn] at e; cases e
  | some q =>
    obtain ⟨x, l⟩ := q
    rw [hn] at e
    obtain ⟨rfl, hI⟩ := num_inv hn
    obtain ⟨rfl, hg⟩ := back_end h (by simp [finR, destsR, argN, argZ]) ⟨by show NumM.In 0; unfold NumM.In; omega, hI⟩ e
    exact hg
theorem back_branch (h : Open p pl lg) (e : branchD p pl lg false ws = some (p2, pl2, lg2, false, [])) : Goes p (kBranch :: ws) p2 pl2 lg2 := by
  unfold branchD at e
  cases hn : takeArg ws with
  | none => rw [hn] at e; cases e
  | some q =>
    obtain ⟨x, l⟩ := q
    rw [hn] at e
    simp only at e
    cases h2 : takeName l with
    | none => rw [h2] at e; cases e
    | some q =>
      obtain ⟨y, l⟩ := q
      rw [h2] at e
      simp only at e
      cases h3 : takeName l with
      | none => rw [h3] at e; cases e
      | some q =>
        obtain ⟨z, l⟩ := q
        rw [h3] at e
        obtain ⟨rfl, hx, hI⟩ := arg_inv hn
        obtain ⟨rfl, hy⟩ := name_inv h2
        obtain ⟨rfl, hz⟩ := name_inv h3
        obtain ⟨rfl, hg⟩ := back_end h (by simp [finR, destsR, hx, hy, hz]) ⟨hI, by show NumM.In 0; unfold NumM.In; omega⟩ e
        exact hg
/-- a line within a block: what is said of the block then. -/
theorem back_blk {b2 : Api.Block} {u : List Api.Func} {n r : Wd} {ps vs : List Var} {bs : List Api.Block} {b : Api.Block} {s : Bool} {c : List Class} {g : List Var} {ex : List Extern} (h : Open (cur s c g ex u n r ps vs bs b) pl lg) (hpl2 : pl2 = 32 ∨ pl2 = 64 ∨ pl2 = 128 ∨ pl2 = 256) (hu : u.length < 8) (hf : ∀ f ∈ u, FnOk f) (hh : HeadOk n r ps vs)
    (hb : bs.length < 256) (hbs : ∀ x ∈ bs, blockR x = true ∧ blockI x) (hk : BlkOk b2) (hfin : b2.fin = termZ) (hlg : lg2 = (longF bs : Int) + (longB b2 : Int)) (hmax : lg2 ≤ 1024) (hst : 128 ≤ pl2 → ∃ k i, b2.code = k ++ [i] ∧ (i.op = 31 ∨ i.op = 34))
    (hw : wls (blockLs b2) = wls (blockLs b) + LinesM.wlen ws) : Goes (cur s c g ex u n r ps vs bs b) ws (cur s c g ex u n r ps vs bs b2) pl2 lg2 :=
  ⟨⟨h.c, h.g, h.e, ⟨fun h => by omega, fun h => by omega⟩, .body hpl2 hu hf hh hb hbs hk hfin hlg hmax hst⟩, wp_cur hw⟩
theorem back_phi (h : Open p pl lg) (e : phiD p pl lg false ws = some (p2, pl2, lg2, false, [])) : Goes p (kPhi :: ws) p2 pl2 lg2 := by
  unfold phiD at e
  split at e
  · cases e
  · rename_i hs
    have hs := of_not hs
    have hpl : pl = 32 := by
      rcases spot h.st with rfl | rfl | rfl | rfl | rfl | rfl | rfl | rfl | rfl | rfl <;> first | rfl | exact absurd hs (by decide)
    cases hn : takeName ws with
    | none => rw [hn] at e; cases e
    | some q =>
      obtain ⟨x, l⟩ := q
      rw [hn] at e
      simp only at e
      cases h2 : takeIn l with
      | none => rw [h2] at e; cases e
      | some q =>
        obtain ⟨y, l⟩ := q
        rw [h2] at e
        simp only at e
        cases h3 : takeAll takeIn l.length l with
        | none => rw [h3] at e; cases e
        | some zs =>
          rw [h3] at e
          simp only [Option.some.injEq, Prod.mk.injEq, Bool.or_eq_false_iff, decide_eq_false_iff_not] at e
          obtain ⟨rfl, rfl, rfl, ⟨⟨-, hm⟩, hm2⟩, -⟩ := e
          obtain ⟨rfl, hx⟩ := name_inv hn
          obtain ⟨rfl, hy, hyI⟩ := in_inv h2
          obtain ⟨hl, hz⟩ := all_inv (put := bindL) (P := fun b => inR b = true ∧ argI b.a) (fun _ _ _ h => in_inv h) _ _ _ h3
          obtain ⟨u, n, r, ps, vs, bs, b, hp, hpl1, hu, hf, hh, hb, hbs, hbk, hfin, hlg, hmax, _⟩ := h.inner (by rw [hpl]; decide)
          generalize p.ssa = s at hp
          generalize p.classes = c at hp
          generalize p.globals = g at hp
          generalize p.externs = ex at hp
          subst hp
          rw [phiP, inB_cur]
          obtain ⟨b1, b2, b3⟩ := hbk
          refine back_blk h hpl1 hu hf hh hb hbs ⟨b1, ?_, b3⟩ hfin ?_ (by omega) (by omega) ?_
          · intro z hz1
            rcases List.mem_append.1 hz1 with hz1 | hz1
            · exact b2 z hz1
            · rw [List.mem_singleton.1 hz1]
              refine ⟨?_, ?_⟩
              · simp only [phiR, allR, Bool.and_eq_true, decide_eq_true_eq, List.all_eq_true]
                refine ⟨hx, by simp, by omega, fun q hq => ?_⟩
                rcases List.mem_cons.1 hq with rfl | hq
                · exact hy
                · exact (hz q hq).1
              · intro q hq
                rcases List.mem_cons.1 hq with rfl | hq
                · exact hyI
                · exact (hz q hq).2
          · unfold longB at hlg ⊢
            simp only [List.length_append, List.length_singleton]
            omega
          · rw [wb_eq, wb_eq]
            simp only
            rw [wls_map]
            unfold phiL
            simp only [List.flatMap_cons]
            rw [← hl]
            omega
theorem back_frm (h : Open p pl lg) (e : frmD p pl lg false ws = some (p2, pl2, lg2, false, [])) : Goes p (kAt :: ws) p2 pl2 lg2 := by
  unfold frmD at e
  split at e
  · cases e
  · rename_i hs
    have hs := of_not hs
    have hpl : pl = 128 := by
      rcases spot h.st with rfl | rfl | rfl | rfl | rfl | rfl | rfl | rfl | rfl | rfl <;> first | rfl | exact absurd hs (by decide)
    cases hn : takeName ws with
    | none => rw [hn] at e; cases e
    | some q =>
      obtain ⟨x, l⟩ := q
      rw [hn] at e
      simp only at e
      cases h2 : takeName l with
      | none => rw [h2] at e; cases e
      | some q =>
        obtain ⟨y, l⟩ := q
        rw [h2] at e
        simp only at e
        cases h4 : takeCount 1024 l with
        | none => rw [h4] at e; cases e
        | some q =>
          obtain ⟨m, l⟩ := q
          rw [h4] at e
          simp only at e
          cases h3 : takeAll takeBind l.length l with
          | none => rw [h3] at e; cases e
          | some zs =>
            rw [h3] at e
            simp only [Option.some.injEq, Prod.mk.injEq, Bool.or_eq_false_iff, decide_eq_false_iff_not] at e
            obtain ⟨rfl, rfl, rfl, ⟨⟨-, hm⟩, hm2⟩, -⟩ := e
            obtain ⟨rfl, hx⟩ := name_inv hn
            obtain ⟨rfl, hy⟩ := name_inv h2
            obtain ⟨rfl, hc1, hc2⟩ := count_inv h4
            obtain ⟨hl, hz⟩ := all_inv (put := bindL) (P := fun b => bindR b = true ∧ argI b.a) (fun _ _ _ h => bind_inv h) _ _ _ h3
            obtain ⟨u, n, r, ps, vs, bs, b, hp, hpl1, hu, hf, hh, hb, hbs, hbk, hfin, hlg, hmax, hcode⟩ := h.inner (by rw [hpl]; decide)
            generalize p.ssa = s at hp
            generalize p.classes = c at hp
            generalize p.globals = g at hp
            generalize p.externs = ex at hp
            subst hp
            obtain ⟨k, i, hk, hop⟩ := hcode (by omega)
            have hth : theI (cur s c g ex u n r ps vs bs b) = i := by
              show (theB (cur s c g ex u n r ps vs bs b)).code.getLast?.getD instrZ = i
              rw [theB_cur, hk]
              exact getD_snoc _ _ _
            rw [hth] at hm2
            rw [frmP, inB_cur, hk, last_snoc]
            obtain ⟨b1, b2, b3⟩ := hbk
            have hi := b3 i (by rw [hk]; simp)
            have hiR := hi.1
            simp only [instrR, Bool.and_eq_true] at hiR
            have hst := hiR.2.2.2.2.2
            unfold stateR at hst
            rw [if_neg (by omega)] at hst
            simp only [Bool.and_eq_true] at hst
            have hfr : frameR ⟨x, y, m, zs⟩ = true := by
              simp only [frameR, allR, Bool.and_eq_true, decide_eq_true_eq, List.all_eq_true]
              exact ⟨hx, hy, ⟨hc1, hc2⟩, by omega, fun q hq => (hz q hq).1⟩
            refine back_blk h hpl1 hu hf hh hb hbs ⟨b1, b2, ?_⟩ hfin ?_ (by omega) (fun _ => ⟨k, _, rfl, hop⟩) ?_
            · intro z hz1
              rcases List.mem_append.1 hz1 with hz1 | hz1
              · exact b3 z (by rw [hk]; simp [hz1])
              · rw [List.mem_singleton.1 hz1]
                refine ⟨?_, hi.2.1, ?_, hi.2.2.2⟩
                · simp only [instrR, Bool.and_eq_true]
                  refine ⟨hiR.1, hiR.2.1, hiR.2.2.1, hiR.2.2.2.1, hiR.2.2.2.2.1, ?_⟩
                  unfold stateR
                  rw [if_neg (by simp only; omega)]
                  simp only [Bool.and_eq_true]
                  exact ⟨allR_snoc hst.1 hfr (by omega), hst.2⟩
                · intro f hf2 q hq
                  rcases List.mem_append.1 hf2 with hf2 | hf2
                  · exact hi.2.2.1 f hf2 q hq
                  · rw [List.mem_singleton.1 hf2] at hq
                    exact (hz q hq).2
            · unfold longB at hlg ⊢
              rw [hk] at hlg
              simpa using hlg
            · rw [wb_eq, wb_eq, hk]
              simp only
              rw [wls_flat, wls_flat, wi_eq, wi_eq]
              simp only
              rw [wls_map]
              show _ = _ + LinesM.wlen (kAt :: x :: y :: NumM.dec m :: l)
              rw [hl]
              show _ + (_ + (_ + (LinesM.wlen (instrL i) + (_ + LinesM.wlen (kAt :: x :: y :: NumM.dec m :: zs.flatMap bindL) + _)) + _)) = _
              omega
theorem back_obj (h : Open p pl lg) (e : objD p pl lg false ws = some (p2, pl2, lg2, false, [])) : Goes p (kObj :: ws) p2 pl2 lg2 := by
  unfold objD at e
  split at e
  · cases e
  · rename_i hs
    have hs := of_not hs
    have hpl : pl = 128 ∨ pl = 256 := by
      rcases spot h.st with rfl | rfl | rfl | rfl | rfl | rfl | rfl | rfl | rfl | rfl <;> first | exact .inl rfl | exact .inr rfl | exact absurd hs (by decide)
    cases hn : takeName ws with
    | none => rw [hn] at e; cases e
    | some q =>
      obtain ⟨x, l⟩ := q
      rw [hn] at e
      simp only at e
      cases h3 : takeAll takeVal l.length l with
      | none => rw [h3] at e; cases e
      | some zs =>
        rw [h3] at e
        simp only at e
        split at e
        · cases e
        rename_i h8
        simp only [Option.some.injEq, Prod.mk.injEq, Bool.or_eq_false_iff, decide_eq_false_iff_not] at e
        obtain ⟨rfl, rfl, rfl, ⟨-, hm2⟩, -⟩ := e
        obtain ⟨rfl, hx⟩ := name_inv hn
        obtain ⟨hl, hz⟩ := each_inv (P := fun b => argR b = true ∧ argI b) (fun _ _ _ h => val_inv h) h3
        obtain ⟨u, n, r, ps, vs, bs, b, hp, hpl1, hu, hf, hh, hb, hbs, hbk, hfin, hlg, hmax, hcode⟩ := h.inner (by rcases hpl with rfl | rfl <;> decide)
        generalize p.ssa = s at hp
        generalize p.classes = c at hp
        generalize p.globals = g at hp
        generalize p.externs = ex at hp
        subst hp
        obtain ⟨k, i, hk, hop⟩ := hcode (by omega)
        have hth : theI (cur s c g ex u n r ps vs bs b) = i := by
          show (theB (cur s c g ex u n r ps vs bs b)).code.getLast?.getD instrZ = i
          rw [theB_cur, hk]
          exact getD_snoc _ _ _
        rw [hth] at hm2
        rw [objP, inB_cur, hk, last_snoc]
        obtain ⟨b1, b2, b3⟩ := hbk
        have hi := b3 i (by rw [hk]; simp)
        have hiR := hi.1
        simp only [instrR, Bool.and_eq_true] at hiR
        have hst := hiR.2.2.2.2.2
        unfold stateR at hst
        rw [if_neg (by omega)] at hst
        simp only [Bool.and_eq_true] at hst
        have hfr : virtR ⟨x, zs⟩ = true := by
          simp only [virtR, allR, Bool.and_eq_true, decide_eq_true_eq, List.all_eq_true]
          exact ⟨hx, by omega, fun q hq => (hz q hq).1⟩
        refine back_blk h (.inr (.inr (.inr rfl))) hu hf hh hb hbs ⟨b1, b2, ?_⟩ hfin ?_ (by omega) (fun _ => ⟨k, _, rfl, hop⟩) ?_
        · intro z hz1
          rcases List.mem_append.1 hz1 with hz1 | hz1
          · exact b3 z (by rw [hk]; simp [hz1])
          · rw [List.mem_singleton.1 hz1]
            refine ⟨?_, hi.2.1, hi.2.2.1, ?_⟩
            · simp only [instrR, Bool.and_eq_true]
              refine ⟨hiR.1, hiR.2.1, hiR.2.2.1, hiR.2.2.2.1, hiR.2.2.2.2.1, ?_⟩
              unfold stateR
              rw [if_neg (by simp only; omega)]
              simp only [Bool.and_eq_true]
              exact ⟨hst.1, allR_snoc hst.2 hfr (by omega)⟩
            · intro f hf2 q hq
              rcases List.mem_append.1 hf2 with hf2 | hf2
              · exact hi.2.2.2 f hf2 q hq
              · rw [List.mem_singleton.1 hf2] at hq
                exact (hz q hq).2
        · unfold longB at hlg ⊢
          rw [hk] at hlg
          simpa using hlg
        · rw [wb_eq, wb_eq, hk]
          simp only
          rw [wls_flat, wls_flat, wi_eq, wi_eq]
          simp only
          rw [wls_map]
          show _ = _ + LinesM.wlen (kObj :: x :: l)
          rw [hl]
          show _ + (_ + (_ + (LinesM.wlen (instrL i) + (_ + (_ + LinesM.wlen (kObj :: x :: zs.map putA)))) + _)) = _
          omega
theorem form_of_op {x : Wd} (h : (opV x).2 = true) : (formV ((opV x).1 : Int)).2 = true ∧ x = opWords.getD (opV x).1 [] := by
  have key : ∀ (f k : Nat), 35 - k ≤ f → (opFrom x k).2 = true → k ≤ (opFrom x k).1 ∧ (opFrom x k).1 < 35 ∧ x = opWords.getD (opFrom x k).1 [] := by
    intro f
    induction f with
    | zero =>
      intro k hk h
      unfold opFrom at h
      rw [dif_neg (by omega)] at h
      cases h
    | succ f ih =>
      intro k hk h
      unfold opFrom at h ⊢
      split at h
      · rename_i hk2
        rw [dif_pos hk2]
        split at h
        · rename_i he
          rw [if_pos he]
          exact ⟨by simp, hk2, he.symm⟩
        · rename_i he
          rw [if_neg he]
          obtain ⟨a1, a2, a3⟩ := ih (k + 1) (by omega) h
          exact ⟨by omega, a2, a3⟩
      · cases h
  obtain ⟨h1, h2, h3⟩ := key 34 1 (by omega) h
  refine ⟨?_, h3⟩
  unfold opV formV
  rw [if_neg (by omega)]
theorem back_ins {dst x : Wd} (h : Open p pl lg) (hd : dst = [] ∨ nameV dst = true) (e : insD p pl lg false dst x ws = some (p2, pl2, lg2, false, [])) : Goes p (if dst = [] then x :: ws else dst :: kEq :: x :: ws) p2 pl2 lg2 := by
  unfold insD at e
  split at e
  · cases e
  · rename_i hs
    have hs := of_not hs
    split at e
    · cases e
    rename_i hop
    simp only [not_or, Bool.not_eq_false, Decidable.not_not, ne_eq] at hop
    obtain ⟨hop1, hop2⟩ := hop
    obtain ⟨hfo, hxw⟩ := form_of_op hop1
    cases hn : takeN takeArg (aheadV (opV x).1) ws with
    | none => rw [hn] at e; cases e
    | some q =>
      obtain ⟨us, l1⟩ := q
      rw [hn] at e
      simp only at e
      cases h2 : takeNm (formV (opV x).1).1.named l1 with
      | none => rw [h2] at e; cases e
      | some q =>
        obtain ⟨nm, l2⟩ := q
        rw [h2] at e
        simp only at e
        cases h3 : takeAll takeArg l2.length l2 with
        | none => rw [h3] at e; cases e
        | some zs =>
          rw [h3] at e
          simp only at e
          split at e
          · cases e
          rename_i hlm
          simp only [not_or] at hlm
          simp only [Option.some.injEq, Prod.mk.injEq, Bool.or_eq_false_iff, decide_eq_false_iff_not] at e
          obtain ⟨rfl, rfl, rfl, ⟨-, hm2⟩, -⟩ := e
          obtain ⟨rfl, hk, ha⟩ := many_inv _ _ _ _ hn
          obtain ⟨hl, hz⟩ := each_inv (P := fun b => argX b = true ∧ argI b) (fun _ _ _ h => arg_inv h) h3
          have hnm : l1 = (if (formV (opV x).1).1.named = true then [nm] else []) ++ l2 ∧ noneR nm (formV (opV x).1).1.named = true := by
            unfold takeNm at h2
            split at h2
            · rename_i hh
              obtain ⟨rfl, hx⟩ := name_inv h2
              rw [if_pos hh]
              refine ⟨rfl, ?_⟩
              unfold noneR
              rw [if_pos hh]; exact hx
            · rename_i hh
              simp only [Option.some.injEq, Prod.mk.injEq] at h2
              obtain ⟨rfl, rfl⟩ := h2
              rw [if_neg hh]
              refine ⟨rfl, ?_⟩
              unfold noneR
              rw [if_neg hh]; rfl
          obtain ⟨u, n, r, ps, vs, bs, b, hp, hpl1, hu, hf, hh, hb, hbs, hbk, hfin, hlg, hmax, hcode⟩ := h.inner hs
          generalize p.ssa = s at hp
          generalize p.classes = c at hp
          generalize p.globals = g at hp
          generalize p.externs = ex at hp
          subst hp
          rw [insP, inB_cur]
          obtain ⟨b1, b2, b3⟩ := hbk
          have hargs : ∀ q ∈ us ++ zs, argX q = true ∧ argI q := by
            intro q hq
            rcases List.mem_append.1 hq with hq | hq
            · exact ha q hq
            · exact hz q hq
          have hpl2 : behindV ((opV x).1 : Int) = 32 ∨ behindV ((opV x).1 : Int) = 64 ∨ behindV ((opV x).1 : Int) = 128 ∨ behindV ((opV x).1 : Int) = 256 := by
            unfold behindV; split <;> simp
          refine back_blk h hpl2 hu hf hh hb hbs ⟨b1, b2, ?_⟩ hfin ?_ (by omega) ?_ ?_
          · intro z hz1
            rcases List.mem_append.1 hz1 with hz1 | hz1
            · exact b3 z hz1
            · rw [List.mem_singleton.1 hz1]
              refine ⟨?_, fun q hq => (hargs q hq).2, by simp, by simp⟩
              simp only [instrR, Bool.and_eq_true, decide_eq_true_eq, List.all_eq_true]
              refine ⟨hfo, ?_, hnm.2, by omega, ⟨by omega, fun q hq => (hargs q hq).1⟩, ?_⟩
              · unfold noneR
                rw [hop2]
                rcases hd with rfl | hd
                · rfl
                · have hne : dst ≠ [] := by rintro rfl; revert hd; decide
                  rw [if_pos (by simp [hne])]
                  exact hd
              · unfold stateR
                split <;> rfl
          · unfold longB at hlg ⊢
            simp only [List.length_append, List.length_singleton]
            omega
          · intro hpl
            refine ⟨_, _, rfl, ?_⟩
            simp only
            unfold behindV at hpl
            split at hpl
            · assumption
            · omega
          · rw [wb_eq, wb_eq]
            simp only
            rw [wls_flat, wi_eq]
            simp only [List.map_nil, wls_nil]
            have hiw : instrL ⟨((opV x).1 : Int), dst, nm, us ++ zs, [], []⟩ = if dst = [] then x :: (us.map putA ++ l1) else dst :: kEq :: x :: (us.map putA ++ l1) := by
              unfold instrL instrW
              simp only
              rw [List.take_left' hk, List.drop_left' hk, ← hl, ← hnm.1, Int.toNat_natCast, ← hxw]
            rw [hiw]
            omega
theorem back_set {x : Wd} (h : Open p pl lg) (e : setD p pl lg false x (kEq :: ws) = some (p2, pl2, lg2, false, [])) : Goes p (x :: kEq :: ws) p2 pl2 lg2 := by
  unfold setD at e
  split at e
  · cases e
  rename_i hn
  have hn := of_not hn
  simp only [takeWord] at e
  cases ws with
  | nil => cases e
  | cons y l =>
    simp only at e
    have hne : x ≠ [] := by rintro rfl; revert hn; decide
    have := back_ins h (.inr hn) e
    rw [if_neg hne] at this
    exact this
theorem disp_cases {x : Wd} {o : Out} (h : dispD p pl lg x ws = o) (ho : o ≠ none) :
    (x = kTrap ∧ trapD p pl lg false ws = o) ∨ (x = kRet ∧ retD p pl lg false ws = o) ∨ (x = kBranch ∧ branchD p pl lg false ws = o) ∨ (x = kJump ∧ jumpD p pl lg false ws = o) ∨ (x = kObj ∧ objD p pl lg false ws = o) ∨ (x = kAt ∧ frmD p pl lg false ws = o) ∨ (insD p pl lg false [] x ws = o) ∨ (x = kPhi ∧ phiD p pl lg false ws = o) ∨ (x = kBlock ∧ blockD p pl lg ws = o) ∨ (x = kVar ∧ varD p pl lg ws = o) ∨ (x = kParam ∧ paramD p pl lg ws = o) ∨ (x = kFunc ∧ funcD p pl lg ws = o) ∨ (x = kExtern ∧ externD p pl lg ws = o) ∨ (x = kGlobal ∧ globalD p pl lg ws = o) ∨ (x = kField ∧ fieldD p pl lg ws = o) ∨ (x = kClass ∧ classD p pl lg ws = o) ∨ (x = kSsa ∧ ssaD p pl lg false ws = o) := by
  unfold dispD at h
  by_cases h1 : x = [116, 114, 97, 112]
  · rw [if_pos h1] at h; exact .inl ⟨h1, h⟩
  rw [if_neg h1] at h
  by_cases h1 : x = [114, 101, 116]
  · rw [if_pos h1] at h; exact .inr (.inl ⟨h1, h⟩)
  rw [if_neg h1] at h
  by_cases h1 : x = [98, 114, 97, 110, 99, 104]
  · rw [if_pos h1] at h; exact .inr (.inr (.inl ⟨h1, h⟩))
  rw [if_neg h1] at h
  by_cases h1 : x = [106, 117, 109, 112]
  · rw [if_pos h1] at h; exact .inr (.inr (.inr (.inl ⟨h1, h⟩)))
  rw [if_neg h1] at h
  by_cases h1 : x = [111, 98, 106]
  · rw [if_pos h1] at h; exact .inr (.inr (.inr (.inr (.inl ⟨h1, h⟩))))
  rw [if_neg h1] at h
  by_cases h1 : x = [97, 116]
  · rw [if_pos h1] at h; exact .inr (.inr (.inr (.inr (.inr (.inl ⟨h1, h⟩)))))
  rw [if_neg h1] at h
  by_cases h1 : x = [103, 117, 97, 114, 100]
  · rw [if_pos h1] at h; exact .inr (.inr (.inr (.inr (.inr (.inr (.inl h))))))
  rw [if_neg h1] at h
  by_cases h1 : x = [111, 117, 116]
  · rw [if_pos h1] at h; exact .inr (.inr (.inr (.inr (.inr (.inr (.inl h))))))
  rw [if_neg h1] at h
  by_cases h1 : x = [103, 115, 116, 111, 114, 101]
  · rw [if_pos h1] at h; exact .inr (.inr (.inr (.inr (.inr (.inr (.inl h))))))
  rw [if_neg h1] at h
  by_cases h1 : x = [115, 116, 111, 114, 101]
  · rw [if_pos h1] at h; exact .inr (.inr (.inr (.inr (.inr (.inr (.inl h))))))
  rw [if_neg h1] at h
  by_cases h1 : x = [112, 104, 105]
  · rw [if_pos h1] at h; exact .inr (.inr (.inr (.inr (.inr (.inr (.inr (.inl ⟨h1, h⟩)))))))
  rw [if_neg h1] at h
  by_cases h1 : x = [98, 108, 111, 99, 107]
  · rw [if_pos h1] at h; exact .inr (.inr (.inr (.inr (.inr (.inr (.inr (.inr (.inl ⟨h1, h⟩))))))))
  rw [if_neg h1] at h
  by_cases h1 : x = [118, 97, 114]
  · rw [if_pos h1] at h; exact .inr (.inr (.inr (.inr (.inr (.inr (.inr (.inr (.inr (.inl ⟨h1, h⟩)))))))))
  rw [if_neg h1] at h
  by_cases h1 : x = [112, 97, 114, 97, 109]
  · rw [if_pos h1] at h; exact .inr (.inr (.inr (.inr (.inr (.inr (.inr (.inr (.inr (.inr (.inl ⟨h1, h⟩))))))))))
  rw [if_neg h1] at h
  by_cases h1 : x = [102, 117, 110, 99]
  · rw [if_pos h1] at h; exact .inr (.inr (.inr (.inr (.inr (.inr (.inr (.inr (.inr (.inr (.inr (.inl ⟨h1, h⟩)))))))))))
  rw [if_neg h1] at h
  by_cases h1 : x = [101, 120, 116, 101, 114, 110]
  · rw [if_pos h1] at h; exact .inr (.inr (.inr (.inr (.inr (.inr (.inr (.inr (.inr (.inr (.inr (.inr (.inl ⟨h1, h⟩))))))))))))
  rw [if_neg h1] at h
  by_cases h1 : x = [103, 108, 111, 98, 97, 108]
  · rw [if_pos h1] at h; exact .inr (.inr (.inr (.inr (.inr (.inr (.inr (.inr (.inr (.inr (.inr (.inr (.inr (.inl ⟨h1, h⟩)))))))))))))
  rw [if_neg h1] at h
  by_cases h1 : x = [102, 105, 101, 108, 100]
  · rw [if_pos h1] at h; exact .inr (.inr (.inr (.inr (.inr (.inr (.inr (.inr (.inr (.inr (.inr (.inr (.inr (.inr (.inl ⟨h1, h⟩))))))))))))))
  rw [if_neg h1] at h
  by_cases h1 : x = [99, 108, 97, 115, 115]
  · rw [if_pos h1] at h; exact .inr (.inr (.inr (.inr (.inr (.inr (.inr (.inr (.inr (.inr (.inr (.inr (.inr (.inr (.inr (.inl ⟨h1, h⟩)))))))))))))))
  rw [if_neg h1] at h
  by_cases h1 : x = [115, 115, 97]
  · rw [if_pos h1] at h; exact .inr (.inr (.inr (.inr (.inr (.inr (.inr (.inr (.inr (.inr (.inr (.inr (.inr (.inr (.inr (.inr ⟨h1, h⟩)))))))))))))))
  rw [if_neg h1] at h
  exact absurd h.symm ho
theorem lineE_ok {o : Out} (h : lineE o = .ok (p2, pl2, lg2)) : o = some (p2, pl2, lg2, false, []) := by
  unfold lineE at h
  split at h
  · cases h
  · rename_i q pl lg ov ws
    split at h
    · cases h
    · split at h
      · cases h
      · rename_i h1 h2
        injection h with h
        simp only [Prod.mk.injEq] at h
        obtain ⟨rfl, rfl, rfl⟩ := h
        simp only [Decidable.not_not, ne_eq] at h1
        subst h1
        cases ov with
        | true => exact absurd rfl h2
        | false => rfl
theorem back_none : lineO p pl lg [] [] = none := by
  unfold lineO
  rw [if_neg (by simp)]
  cases hd : dispD p pl lg [] [] with
  | none => rfl
  | some o =>
    exfalso
    rcases disp_cases hd (by simp) with ⟨hx, _⟩ | ⟨hx, _⟩ | ⟨hx, _⟩ | ⟨hx, _⟩ | ⟨hx, _⟩ | ⟨hx, _⟩ | hx | ⟨hx, _⟩ | ⟨hx, _⟩ | ⟨hx, _⟩ | ⟨hx, _⟩ | ⟨hx, _⟩ | ⟨hx, _⟩ | ⟨hx, _⟩ | ⟨hx, _⟩ | ⟨hx, _⟩ | ⟨hx, _⟩
    all_goals first | (cases hx; done) | skip
    unfold insD at hx
    split at hx
    · cases hx
    · have e : (opV []).2 = false := by decide +kernel
      rw [if_pos (.inl e)] at hx
      cases hx
theorem back_disp {x : Wd} (h : Open p pl lg) (ho : dispD p pl lg x l = some (p2, pl2, lg2, false, [])) : Goes p (x :: l) p2 pl2 lg2 := by
  rcases disp_cases ho (by simp) with ⟨rfl, hx⟩ | ⟨rfl, hx⟩ | ⟨rfl, hx⟩ | ⟨rfl, hx⟩ | ⟨rfl, hx⟩ | ⟨rfl, hx⟩ | hx | ⟨rfl, hx⟩ | ⟨rfl, hx⟩ | ⟨rfl, hx⟩ | ⟨rfl, hx⟩ | ⟨rfl, hx⟩ | ⟨rfl, hx⟩ | ⟨rfl, hx⟩ | ⟨rfl, hx⟩ | ⟨rfl, hx⟩ | ⟨rfl, hx⟩
  · exact back_trap h hx
  · exact back_ret h hx
  · exact back_branch h hx
  · exact back_jump h hx
  · exact back_obj h hx
  · exact back_frm h hx
  · exact back_ins h (.inl rfl) hx
  · exact back_phi h hx
  · exact back_block h hx
  · exact back_var h hx
  · exact back_param h hx
  · exact back_func h hx
  · exact back_extern h hx
  · exact back_global h hx
  · exact back_field h hx
  · exact back_class h hx
  · exact back_ssa h hx
/-- One line. -/
theorem back_step (h : Open p pl lg) (e : step (p, pl, lg) ws = some (p2, pl2, lg2)) : Goes p ws p2 pl2 lg2 := by
  unfold step at e
  split at e
  · rename_i s2 hl
    injection e with e
    subst e
    have ho := lineE_ok hl
    cases ws with
    | nil =>
      have ho : lineO p pl lg [] [] = some (p2, pl2, lg2, false, []) := ho
      rw [back_none] at ho
      cases ho
    | cons x l =>
      have ho : lineO p pl lg x l = some (p2, pl2, lg2, false, []) := ho
      unfold lineO at ho
      split at ho
      · rename_i hh
        cases l with
        | nil => cases hh
        | cons y l =>
          obtain rfl : y = kEq := Option.some.inj hh
          exact back_set h ho
      · exact back_disp h ho
  · cases e
/-- Many lines. -/
theorem back_many : ∀ (L : List (List Wd)) {p p2 : Prog} {pl lg pl2 lg2 : Int}, Open p pl lg → readW (p, pl, lg) L = some (p2, pl2, lg2) → Open p2 pl2 lg2 ∧ wp p2 = wp p + wls L := by
  intro L
  induction L with
  | nil =>
    intro p p2 pl lg pl2 lg2 h e
    simp only [readW, Option.some.injEq, Prod.mk.injEq] at e
    obtain ⟨rfl, rfl, rfl⟩ := e
    exact ⟨h, rfl⟩
  | cons ws L ih =>
    intro p p2 pl lg pl2 lg2 h e
    simp only [readW] at e
    cases hs : step (p, pl, lg) ws with
    | none => rw [hs] at e; cases e
    | some s =>
      obtain ⟨p3, pl3, lg3⟩ := s
      rw [hs] at e
      obtain ⟨h1, h2⟩ := back_step h hs
      obtain ⟨h3, h4⟩ := ih h1 e
      exact ⟨h3, by rw [h4, h2, wls_cons]; omega⟩
/-- What is read is right, and as long. -/
theorem read_back {L : List (Nat × List Wd)} {p : Prog} (h : parseE L = .ok p) : progR p = true ∧ progI p ∧ wp p = wls (L.map fun x => x.2) := by
  obtain ⟨pl, lg, hr, hs⟩ := parseE_ok.1 h
  obtain ⟨h1, h2⟩ := back_many _ Open.start hr
  obtain ⟨h3, h4⟩ := h1.right hs
  exact ⟨h3, h4, by rw [h2]; show 0 + _ = _; omega⟩
end Go.Proofs.YtkfpcaganhmkcaaDoor.Rd5
