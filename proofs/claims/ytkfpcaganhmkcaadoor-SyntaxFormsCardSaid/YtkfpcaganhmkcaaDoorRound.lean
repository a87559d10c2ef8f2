/-
  A right program's lines are read as it.
-/
import Derived.Test.YtkfpcaganhmkcaaDoorText
namespace Go.Proofs.YtkfpcaganhmkcaaDoor.Rd5
open Go.RowKit Api Syn WordM Tree

variable {p p2 : Prog} {pl lg pl2 lg2 : Int} {l : List Wd}
/-! ### words -/
theorem name_eq {x : Wd} (h : nameV x = true) : x ≠ [61] := by rintro rfl; revert h; decide
theorem take_name {x : Wd} (h : nameV x = true) (l : List Wd) : takeName (x :: l) = some (x, l) := by simp [takeName, h]
theorem take_kind {x : Wd} (h : kindV x = true) (l : List Wd) : takeKind (x :: l) = some (x, l) := by simp [takeKind, h]
theorem take_var {v : Var} (h : varR v = true) (l : List Wd) : takeVar (v.name :: v.type :: l) = some (v, l) := by
  simp only [varR, Bool.and_eq_true] at h
  simp [takeVar, take_name h.1, take_kind h.2]
theorem put_read {a : Arg} (hI : argI a) (h : argR a = true) : argV (putA a) = (a, true) := by
  have e : wget ⟨(wput (ofA a)).toArray⟩ = (ofA a, true) := wget_of hI h rfl
  unfold argV putA
  rw [e]
  rfl
theorem x_of {a : Arg} (h : argX a = true) : argR a = true ∧ a.kind ≠ 5 := by
  simp only [argX, Bool.and_eq_true, bne_iff_ne, ne_eq] at h
  exact ⟨h.2, h.1⟩
theorem take_val {a : Arg} (hI : argI a) (h : argR a = true) (l : List Wd) : takeVal (putA a :: l) = some (a, l) := by
  simp only [takeVal]
  rw [put_read hI h, if_pos rfl]
theorem take_arg {a : Arg} (hI : argI a) (h : argX a = true) (l : List Wd) : takeArg (putA a :: l) = some (a, l) := by
  unfold takeArg
  rw [take_val hI (x_of h).1]
  simp only
  rw [if_neg (x_of h).2]
theorem put_eq {a : Arg} (hI : argI a) (h : argR a = true) : putA a ≠ [61] := by
  intro e
  have := put_read hI h
  rw [e] at this
  have h2 : (argV [61]).2 = true := congrArg Prod.snd this
  exact absurd h2 (by decide +kernel)
theorem dec_eq {n : Int} (hI : NumM.In n) : NumM.dec n ≠ [61] := by
  intro e
  have := NumM.get_dec n hI
  rw [e] at this
  have h2 : (NumM.getV [61]).2 = true := congrArg Prod.snd this
  exact absurd h2 (by decide +kernel)
theorem take_num {n : Int} (hI : NumM.In n) (l : List Wd) : takeNum (NumM.dec n :: l) = some (n, l) := by
  simp only [takeNum]
  rw [NumM.get_dec n hI, if_pos rfl]
theorem take_count {n m : Int} (h0 : 0 ≤ n) (h1 : n ≤ m) (hm : m ≤ 1024) (l : List Wd) : takeCount m (NumM.dec n :: l) = some (n, l) := by
  unfold takeCount
  rw [take_num (by unfold NumM.In; omega)]
  simp only
  rw [if_neg (by omega)]
theorem take_bind {b : Bind} (hI : argI b.a) (h : bindR b = true) (l : List Wd) : takeBind (bindL b ++ l) = some (b, l) := by
  simp only [bindR, Bool.and_eq_true] at h
  show takeBind (b.name :: putA b.a :: l) = _
  unfold takeBind
  rw [take_name h.1]
  simp only
  rw [take_val hI h.2]
theorem take_in {b : Bind} (hI : argI b.a) (h : inR b = true) (l : List Wd) : takeIn (bindL b ++ l) = some (b, l) := by
  simp only [inR, Bool.and_eq_true] at h
  show takeIn (b.name :: putA b.a :: l) = _
  unfold takeIn
  rw [take_name h.1]
  simp only
  rw [take_arg hI h.2]
theorem take_all {β : Type} {take : List Wd → Option (β × List Wd)} {put : β → List Wd} {ys : List β} (h : ∀ y ∈ ys, ∀ l, take (put y ++ l) = some (y, l)) (hne : ∀ y ∈ ys, put y ≠ []) :
    ∀ n, (ys.flatMap put).length ≤ n → takeAll take n (ys.flatMap put) = some ys := by
  induction ys with
  | nil => intro n _; cases n <;> rfl
  | cons y ys ih =>
    intro n hn
    rw [List.flatMap_cons] at hn ⊢
    have hy := hne y (by simp)
    have ht := h y (by simp) (ys.flatMap put)
    obtain ⟨x, t, e⟩ : ∃ x t, put y = x :: t := by
      cases hp : put y with
      | nil => exact absurd hp hy
      | cons x t => exact ⟨x, t, rfl⟩
    have hi := ih (fun z hz => h z (by simp [hz])) (fun z hz => hne z (by simp [hz]))
    rw [e, List.cons_append] at hn ht ⊢
    cases n with
    | zero => simp at hn
    | succ n =>
      simp only [takeAll]
      rw [ht]
      simp only
      rw [hi n (by rw [List.length_cons, List.length_append] at hn; omega)]
      rfl
theorem take_each {take : List Wd → Option (Arg × List Wd)} {ys : List Arg} (h : ∀ y ∈ ys, ∀ l, take (putA y :: l) = some (y, l)) : takeAll take (ys.map putA).length (ys.map putA) = some ys := by
  have e : ys.map putA = ys.flatMap fun a => [putA a] := by rw [← List.flatMap_singleton' (ys.map putA), List.flatMap_map]
  rw [e]
  exact take_all (put := fun a => [putA a]) h (by simp) _ (Nat.le_refl _)

/-! ### lines -/
theorem step_of {x : Wd} (hl : l.head? ≠ some [61]) (hd : dispD p pl lg x l = some (p2, pl2, lg2, false, [])) : step (p, pl, lg) (x :: l) = some (p2, pl2, lg2) := by
  have e : lineE (lineO p pl lg x l) = .ok (p2, pl2, lg2) := by
    unfold lineO
    rw [if_neg hl, hd]
    rfl
  show (match lineE (lineO p pl lg x l) with | .ok s' => some s' | .error _ => none) = _
  rw [e]
theorem step_set {x : Wd} (hd : setD p pl lg false x (kEq :: l) = some (p2, pl2, lg2, false, [])) : step (p, pl, lg) (x :: kEq :: l) = some (p2, pl2, lg2) := by
  have e : lineE (lineO p pl lg x (kEq :: l)) = .ok (p2, pl2, lg2) := by
    unfold lineO
    rw [if_pos (by rfl), hd]
    rfl
  show (match lineE (lineO p pl lg x (kEq :: l)) with | .ok s' => some s' | .error _ => none) = _
  rw [e]
theorem disp_trap : dispD p pl lg kTrap l = trapD p pl lg false l := rfl
theorem disp_ret : dispD p pl lg kRet l = retD p pl lg false l := rfl
theorem disp_branch : dispD p pl lg kBranch l = branchD p pl lg false l := rfl
theorem disp_jump : dispD p pl lg kJump l = jumpD p pl lg false l := rfl
theorem disp_obj : dispD p pl lg kObj l = objD p pl lg false l := rfl
theorem disp_at : dispD p pl lg kAt l = frmD p pl lg false l := rfl
theorem disp_phi : dispD p pl lg kPhi l = phiD p pl lg false l := rfl
theorem disp_block : dispD p pl lg kBlock l = blockD p pl lg l := rfl
theorem disp_var : dispD p pl lg kVar l = varD p pl lg l := rfl
theorem disp_param : dispD p pl lg kParam l = paramD p pl lg l := rfl
theorem disp_func : dispD p pl lg kFunc l = funcD p pl lg l := rfl
theorem disp_extern : dispD p pl lg kExtern l = externD p pl lg l := rfl
theorem disp_global : dispD p pl lg kGlobal l = globalD p pl lg l := rfl
theorem disp_field : dispD p pl lg kField l = fieldD p pl lg l := rfl
theorem disp_class : dispD p pl lg kClass l = classD p pl lg l := rfl
theorem disp_ssa : dispD p pl lg kSsa l = ssaD p pl lg false l := rfl
theorem head_name {x : Wd} (h : nameV x = true) (l : List Wd) : (x :: l).head? ≠ some [61] := fun e => name_eq h (Option.some.inj e)
theorem no_more {a b : Int} (h : b ≤ a) : decide (a < b) = false := by simp; omega

theorem step_ssa : step (⟨false, [], [], [], []⟩, 1, 0) [kSsa] = some (⟨true, [], [], [], []⟩, 2, 0) := rfl
theorem step_class {n : Wd} (h : stB pl 519 = true) (hn : nameV n = true) (hl : p.classes.length < 8) : step (p, pl, lg) [kClass, n] = some ({ p with classes := p.classes ++ [⟨n, []⟩] }, 4, lg) := by
  refine step_of (head_name hn _) ?_
  rw [disp_class]
  unfold classD
  rw [if_neg (by simp [h]), take_name hn]
  simp only
  rw [no_more (by omega)]
theorem step_global {v : Var} (h : stB pl 519 = true) (hv : varR v = true) (hl : p.globals.length < 8) : step (p, pl, lg) (varL kGlobal v) = some ({ p with globals := p.globals ++ [v] }, 2, lg) := by
  have hn : nameV v.name = true := by simp only [varR, Bool.and_eq_true] at hv; exact hv.1
  refine step_of (head_name hn _) ?_
  rw [disp_global]
  unfold globalD
  rw [if_neg (by simp [h]), take_var hv]
  simp only
  rw [no_more (by omega)]
theorem step_extern {e : Extern} (h : stB pl 519 = true) (hv : externR e = true) (hl : p.externs.length < 8) : step (p, pl, lg) (externL e) = some ({ p with externs := p.externs ++ [e] }, 2, lg) := by
  simp only [externR, Bool.and_eq_true, decide_eq_true_eq] at hv
  refine step_of (head_name hv.1 _) ?_
  rw [disp_extern]
  unfold externD
  rw [if_neg (by simp [h]), take_name hv.1]
  simp only
  rw [take_count hv.2.1 hv.2.2 (by decide)]
  simp only
  rw [no_more (by omega)]
theorem step_func {n r : Wd} (h : stB pl 519 = true) (hn : nameV n = true) (hr : kindV r = true) (hl : p.funcs.length < 8) : step (p, pl, lg) [kFunc, n, r] = some ({ p with funcs := p.funcs ++ [⟨n, r, [], [], []⟩] }, 8, 0) := by
  refine step_of (head_name hn _) ?_
  rw [disp_func]
  unfold funcD
  rw [if_neg (by simp [h]), take_name hn]
  simp only
  rw [take_kind hr]
  simp only
  rw [no_more (by omega)]
theorem getD_snoc {α : Type} (l : List α) (x z : α) : (l ++ [x]).getLast?.getD z = x := by simp
section
variable {s : Bool} {c : List Class} {g : List Var} {e : List Extern} {u : List Api.Func}
theorem step_field {n : Wd} {d : List Var} {v : Var} (hv : varR v = true) (hl : d.length < 8) : step (⟨s, c ++ [⟨n, d⟩], g, e, u⟩, 4, lg) (varL kField v) = some (⟨s, c ++ [⟨n, d ++ [v]⟩], g, e, u⟩, 4, lg) := by
  have hn : nameV v.name = true := by simp only [varR, Bool.and_eq_true] at hv; exact hv.1
  refine step_of (head_name hn _) ?_
  rw [disp_field]
  unfold fieldD
  rw [if_neg (by decide), take_var hv]
  simp only
  rw [getD_snoc, last_snoc, no_more (by simp only; omega)]
theorem step_param {n r : Wd} {ps vs : List Var} {b : List Api.Block} {v : Var} (hv : varR v = true) (hl : ps.length < 6) : step (⟨s, c, g, e, u ++ [⟨n, r, ps, vs, b⟩]⟩, 8, lg) (varL kParam v) = some (⟨s, c, g, e, u ++ [⟨n, r, ps ++ [v], vs, b⟩]⟩, 8, lg) := by
  have hn : nameV v.name = true := by simp only [varR, Bool.and_eq_true] at hv; exact hv.1
  refine step_of (head_name hn _) ?_
  rw [disp_param]
  unfold paramD
  rw [if_neg (by decide), take_var hv]
  simp only
  rw [getD_snoc, last_snoc, no_more (by simp only; omega)]
theorem step_var {n r : Wd} {ps vs : List Var} {b : List Api.Block} {v : Var} (h : stB pl 24 = true) (hv : varR v = true) (hl : vs.length < 1024) : step (⟨s, c, g, e, u ++ [⟨n, r, ps, vs, b⟩]⟩, pl, lg) (varL kVar v) = some (⟨s, c, g, e, u ++ [⟨n, r, ps, vs ++ [v], b⟩]⟩, 16, lg) := by
  have hn : nameV v.name = true := by simp only [varR, Bool.and_eq_true] at hv; exact hv.1
  refine step_of (head_name hn _) ?_
  rw [disp_var]
  unfold varD
  rw [if_neg (by simp [h]), take_var hv]
  simp only
  rw [getD_snoc, last_snoc, no_more (by simp only; omega)]
theorem step_block {n r : Wd} {ps vs : List Var} {b : List Api.Block} {x : Wd} (h : stB pl 536 = true) (hx : nameV x = true) (hl : b.length < 256) : step (⟨s, c, g, e, u ++ [⟨n, r, ps, vs, b⟩]⟩, pl, lg) [kBlock, x] = some (⟨s, c, g, e, u ++ [⟨n, r, ps, vs, b ++ [⟨x, [], [], termZ⟩]⟩]⟩, 32, lg) := by
  refine step_of (head_name hx _) ?_
  rw [disp_block]
  unfold blockD
  rw [if_neg (by simp [h]), take_name hx]
  simp only
  rw [getD_snoc, last_snoc, no_more (by simp only; omega)]
variable {n r : Wd} {ps vs : List Var} {bs : List Api.Block} {b : Api.Block}
/-- The program of whose last function the last block is being read. -/
abbrev cur (s : Bool) (c : List Class) (g : List Var) (e : List Extern) (u : List Api.Func) (n r : Wd) (ps vs : List Var) (bs : List Api.Block) (b : Api.Block) : Prog := ⟨s, c, g, e, u ++ [⟨n, r, ps, vs, bs ++ [b]⟩]⟩
theorem inB_cur (f : Api.Block → Api.Block) : inB (cur s c g e u n r ps vs bs b) f = cur s c g e u n r ps vs bs (f b) := by
  unfold inB
  simp only
  rw [last_snoc]
  simp only
  rw [last_snoc]
theorem theB_cur : theB (cur s c g e u n r ps vs bs b) = b := by
  show ((u ++ [_]).getLast?.getD funcZ).blocks.getLast?.getD blockZ = b
  rw [getD_snoc]
  simp only
  rw [getD_snoc]
theorem step_phi {x : Phi} (hI : phiI x) (h : phiR x = true) (hl : lg < 1024) : step (cur s c g e u n r ps vs bs b, 32, lg) (phiL x) = some (cur s c g e u n r ps vs bs { b with phis := b.phis ++ [x] }, 32, lg + 1) := by
  simp only [phiR, allR, Bool.and_eq_true, decide_eq_true_eq] at h
  obtain ⟨hn, h0, hm, ha⟩ := h
  obtain ⟨d, ins⟩ := x
  simp only at hn h0 hm ha
  cases ins with
  | nil => simp at h0
  | cons y ins =>
    have hy : inR y = true := List.all_eq_true.1 ha y (by simp)
    refine step_of (head_name hn _) ?_
    rw [disp_phi]
    unfold phiD
    rw [if_neg (by decide), take_name hn]
    simp only [List.flatMap_cons]
    rw [take_in (hI y (by simp)) hy]
    simp only
    rw [take_all (put := bindL) (fun z hz l => take_in (hI z (by simp [hz])) (List.all_eq_true.1 ha z (by simp [hz])) l) (fun z _ => by simp [bindL]) _ (Nat.le_refl _)]
    simp only
    rw [no_more (by omega), no_more (by omega), phiP, inB_cur]
    rfl
theorem step_fin {t : Api.Term} (h : stB pl 480 = true) (hI : finI t) (hR : finR t = true) : step (cur s c g e u n r ps vs bs b, pl, lg) (endL t) = some (cur s c g e u n r ps vs bs { b with fin := t }, 512, lg) := by
  have hfin : ∀ t : Api.Term, finP (cur s c g e u n r ps vs bs b) t = cur s c g e u n r ps vs bs { b with fin := t } := fun t => inB_cur fun b => { b with fin := t }
  obtain ⟨k, a, d, m⟩ := t
  obtain ⟨hI1, hI2⟩ := hI
  unfold finR at hR
  unfold endL
  simp only at hR hI1 hI2 ⊢
  have hargN : argN a = true → a = argZ := by
    intro h
    obtain ⟨k, x, n⟩ := a
    simp only [argN, Bool.and_eq_true, beq_iff_eq] at h
    obtain ⟨rfl, rfl, rfl⟩ := h
    rfl
  split at hR
  · rename_i hk
    subst hk
    rw [if_pos rfl]
    simp only [Bool.and_eq_true, destsR, decide_eq_true_eq, beq_iff_eq, List.all_eq_true] at hR
    obtain ⟨ha, ⟨hd, hn⟩, rfl⟩ := hR
    obtain rfl := hargN ha
    match d, hd, hn with
    | [x], _, hn =>
      have hx := hn x (by simp)
      refine step_of (head_name hx _) ?_
      rw [disp_jump]
      unfold jumpD
      rw [take_name hx]
      simp only
      unfold endD
      rw [if_neg (by simp [h]), hfin]
  · rename_i hk1
    rw [if_neg hk1]
    split at hR
    · rename_i hk
      subst hk
      rw [if_pos rfl]
      simp only [Bool.and_eq_true, destsR, decide_eq_true_eq, beq_iff_eq, List.all_eq_true] at hR
      obtain ⟨ha, ⟨hd, hn⟩, rfl⟩ := hR
      match d, hd, hn with
      | [x, y], _, hn =>
        have hx := hn x (by simp)
        have hy := hn y (by simp)
        refine step_of (fun e => put_eq hI1 (x_of ha).1 (Option.some.inj e)) ?_
        rw [disp_branch]
        unfold branchD
        rw [take_arg hI1 ha]
        simp only
        rw [take_name hx]
        simp only
        rw [take_name hy]
        simp only
        unfold endD
        rw [if_neg (by simp [h]), hfin]
    · rename_i hk2
      rw [if_neg hk2]
      split at hR
      · rename_i hk
        subst hk
        rw [if_pos rfl]
        simp only [Bool.and_eq_true, destsR, decide_eq_true_eq, beq_iff_eq, List.all_eq_true] at hR
        obtain ⟨ha, ⟨hd, hn⟩, rfl⟩ := hR
        obtain rfl := List.eq_nil_of_length_eq_zero hd
        refine step_of (fun e => put_eq hI1 (x_of ha).1 (Option.some.inj e)) ?_
        rw [disp_ret]
        unfold retD
        rw [take_arg hI1 ha]
        simp only
        unfold endD
        rw [if_neg (by simp [h]), hfin]
      · rename_i hk3
        rw [if_neg hk3]
        split at hR
        · rename_i hk
          subst hk
          simp only [Bool.and_eq_true, destsR, decide_eq_true_eq, List.all_eq_true] at hR
          obtain ⟨ha, hd, hn⟩ := hR
          obtain rfl := hargN ha
          obtain rfl := List.eq_nil_of_length_eq_zero hd
          refine step_of (fun e => dec_eq hI2 (Option.some.inj e)) ?_
          rw [disp_trap]
          unfold trapD
          rw [take_num hI2]
          simp only
          unfold endD
          rw [if_neg (by simp [h]), hfin]
        · simp at hR
theorem op_range {op : Int} (h : (formV op).2 = true) : ∃ k : Nat, op = (k : Int) ∧ 1 ≤ k ∧ k ≤ 34 := by
  unfold formV at h
  split at h
  · simp at h
  · exact ⟨op.toNat, by omega, by omega, by omega⟩
theorem op_back {op : Int} (h : (formV op).2 = true) : opV (opWords.getD op.toNat []) = (op.toNat, true) := by
  obtain ⟨k, rfl, h1, h2⟩ := op_range h
  have hall : ∀ k ∈ List.range 35, k = 0 ∨ opV (opWords.getD k []) = (k, true) := by decide +kernel
  rcases hall k (List.mem_range.2 (by omega)) with h | h
  · omega
  · exact h
theorem opW_eq {op : Int} (h : (formV op).2 = true) : nameV (opWords.getD op.toNat []) = true := by
  obtain ⟨k, rfl, h1, h2⟩ := op_range h
  have hall : ∀ k ∈ List.range 35, k = 0 ∨ nameV (opWords.getD k []) = true := by decide +kernel
  rcases hall k (List.mem_range.2 (by omega)) with h | h
  · omega
  · exact h
/-- Instructions without a variable, by their words. -/
theorem disp_act {op : Int} (h : (formV op).2 = true) (hd : (formV op).1.dst = false) : dispD p pl lg (opWords.getD op.toNat []) l = insD p pl lg false [] (opWords.getD op.toNat []) l := by
  obtain ⟨k, rfl, h1, h2⟩ := op_range h
  have hall : ∀ k ∈ List.range 35, k = 0 ∨ (formV (k : Int)).1.dst = true ∨ k = 27 ∨ k = 30 ∨ k = 33 ∨ k = 34 := by decide +kernel
  rcases hall k (List.mem_range.2 (by omega)) with h | h | rfl | rfl | rfl | rfl
  · omega
  · rw [hd] at h; cases h
  · rfl
  · rfl
  · rfl
  · rfl
theorem ahead_least {op : Int} (h : (formV op).2 = true) : (aheadV op : Int) ≤ (formV op).1.least ∧ (aheadV op = 0 ∨ aheadV op = 1) ∧ (formV op).1.most ≤ 8 := by
  obtain ⟨k, rfl, h1, h2⟩ := op_range h
  have hall : ∀ k ∈ List.range 35, k = 0 ∨ ((aheadV (k : Int) : Int) ≤ (formV (k : Int)).1.least ∧ (aheadV (k : Int) = 0 ∨ aheadV (k : Int) = 1) ∧ (formV (k : Int)).1.most ≤ 8) := by decide +kernel
  rcases hall k (List.mem_range.2 (by omega)) with h | h
  · omega
  · exact h
theorem take_many {ys : List Arg} {k : Nat} (h : ∀ y ∈ ys, argX y = true ∧ argI y) (hk : k ≤ ys.length) (l : List Wd) : takeN takeArg k ((ys.take k).map putA ++ l) = some (ys.take k, l) := by
  induction ys generalizing k with
  | nil =>
    obtain rfl : k = 0 := by simpa using hk
    rfl
  | cons y ys ih =>
    cases k with
    | zero => rfl
    | succ k =>
      have hy := h y (by simp)
      simp only [List.take_succ_cons, List.map_cons, List.cons_append, takeN]
      rw [take_arg hy.2 hy.1]
      simp only
      rw [ih (fun z hz => h z (by simp [hz])) (by simpa using hk)]
/-- What stands behind an instruction's word. -/
theorem ins_read {i : Instr} {q : Prog} (hs : stB pl 480 = true) (hI : ∀ a ∈ i.args, argI a) (h : instrR i = true) (hl : lg < 1024) :
    insD q pl lg false i.dst (opWords.getD i.op.toNat []) (instrW i).tail = some (insP q { i with frames := [], objs := [] }, behindV i.op, lg + 1, false, []) := by
  simp only [instrR, Bool.and_eq_true, decide_eq_true_eq, List.all_eq_true] at h
  obtain ⟨hf, hd, hn, hleast, ⟨hmost, hx⟩, hst⟩ := h
  have hop : ((i.op.toNat : Nat) : Int) = i.op := by obtain ⟨k, e, _, _⟩ := op_range hf; omega
  obtain ⟨ha1, ha2, ha3⟩ := ahead_least hf
  have hargs : ∀ y ∈ i.args, argX y = true ∧ argI y := fun y hy => ⟨hx y hy, hI y hy⟩
  unfold insD
  rw [if_neg (by simp [hs]), op_back hf]
  simp only
  rw [hop]
  have hdst : (formV i.op).1.dst = (i.dst != []) := by
    unfold noneR at hd
    split at hd
    · rename_i hh
      rw [hh]
      cases hi : i.dst with
      | nil => rw [hi] at hd; revert hd; decide
      | cons a b => rfl
    · rename_i hh
      simp at hd hh
      rw [hd, hh]; rfl
  rw [if_neg (by simp [hdst])]
  show (match takeN takeArg (aheadV i.op) ((i.args.take (aheadV i.op)).map putA ++ _) with | none => none | some (us, l1) => _) = _
  rw [take_many hargs (by omega)]
  simp only
  have hnm : takeNm (formV i.op).1.named ((if (formV i.op).1.named = true then [i.name] else []) ++ (i.args.drop (aheadV i.op)).map putA) = some (i.name, (i.args.drop (aheadV i.op)).map putA) := by
    unfold takeNm
    unfold noneR at hn
    split at hn
    · rename_i hh
      rw [if_pos hh, if_pos hh]
      exact take_name hn _
    · rename_i hh
      rw [if_neg hh, if_neg hh]
      simp only [beq_iff_eq] at hn
      rw [hn]; rfl
  rw [hnm]
  simp only
  rw [take_each (fun y hy l => take_arg (hI y (List.mem_of_mem_drop hy)) (hx y (List.mem_of_mem_drop hy)) l)]
  simp only
  rw [List.take_append_drop, if_neg (by omega), no_more (by omega)]
  rfl
theorem dst_form {i : Instr} (h : instrR i = true) : (i.dst = [] ∧ (formV i.op).1.dst = false) ∨ (nameV i.dst = true ∧ i.dst ≠ []) := by
  simp only [instrR, Bool.and_eq_true] at h
  have hd := h.2.1
  unfold noneR at hd
  split at hd
  · right
    refine ⟨hd, fun e => ?_⟩
    rw [e] at hd; revert hd; decide
  · rename_i hh
    left
    simp at hd hh
    exact ⟨hd, hh⟩
theorem step_ins {i : Instr} (hs : stB pl 480 = true) (hI : ∀ a ∈ i.args, argI a) (h : instrR i = true) (hl : lg < 1024) :
    step (cur s c g e u n r ps vs bs b, pl, lg) (instrL i) = some (cur s c g e u n r ps vs bs { b with code := b.code ++ [{ i with frames := [], objs := [] }] }, behindV i.op, lg + 1) := by
  have hr := ins_read (q := cur s c g e u n r ps vs bs b) hs hI h hl
  have hf : (formV i.op).2 = true := by simp only [instrR, Bool.and_eq_true] at h; exact h.1
  rw [insP, inB_cur] at hr
  unfold instrL
  rcases dst_form h with ⟨hd, hdf⟩ | ⟨hd, hne⟩
  · rw [if_pos hd]
    have e0 : insD (cur s c g e u n r ps vs bs b) pl lg false [] (opWords.getD i.op.toNat []) (instrW i).tail = insD (cur s c g e u n r ps vs bs b) pl lg false i.dst (opWords.getD i.op.toNat []) (instrW i).tail := by rw [hd]
    refine step_of ?_ (by rw [disp_act hf hdf]; exact e0.trans hr)
    simp only [instrR, Bool.and_eq_true, decide_eq_true_eq, List.all_eq_true] at h
    obtain ⟨_, _, hn, hleast, ⟨hmost, hx⟩, hst⟩ := h
    show ((i.args.take (aheadV i.op)).map putA ++ ((if (formV i.op).1.named = true then [i.name] else []) ++ (i.args.drop (aheadV i.op)).map putA)).head? ≠ some [61]
    intro e
    have hm : ([61] : Wd) ∈ (i.args.take (aheadV i.op)).map putA ++ ((if (formV i.op).1.named = true then [i.name] else []) ++ (i.args.drop (aheadV i.op)).map putA) := List.mem_of_mem_head? e
    simp only [List.mem_append, List.mem_map] at hm
    rcases hm with ⟨a, ha, e⟩ | hm | ⟨a, ha, e⟩
    · exact put_eq (hI a (List.mem_of_mem_take ha)) (x_of (hx a (List.mem_of_mem_take ha))).1 e
    · unfold noneR at hn
      split at hm
      · rename_i hh
        rw [if_pos hh] at hn
        simp only [List.mem_singleton] at hm
        exact name_eq hn hm.symm
      · simp at hm
    · exact put_eq (hI a (List.mem_of_mem_drop ha)) (x_of (hx a (List.mem_of_mem_drop ha))).1 e
  · rw [if_neg hne]
    refine step_set ?_
    unfold setD
    rw [if_neg (by simp [hd])]
    exact hr
theorem theI_cur {x : Instr} : theI (cur s c g e u n r ps vs bs { b with code := b.code ++ [x] }) = x := by
  show (theB (cur s c g e u n r ps vs bs { b with code := b.code ++ [x] })).code.getLast?.getD instrZ = x
  rw [theB_cur]
  exact getD_snoc _ _ _
variable {k : List Instr}
theorem step_frame {i : Instr} {f : Api.Frame} (hI : ∀ b ∈ f.vars, argI b.a) (h : frameR f = true) (hl : i.frames.length < 16) (hb : b.code = k ++ [i]) :
    step (cur s c g e u n r ps vs bs b, 128, lg) (frameL f) = some (cur s c g e u n r ps vs bs { b with code := k ++ [{ i with frames := i.frames ++ [f] }] }, 128, lg) := by
  simp only [frameR, allR, Bool.and_eq_true, decide_eq_true_eq] at h
  obtain ⟨h1, h2, ⟨h3, h4⟩, h5, h6⟩ := h
  have hth : theI (cur s c g e u n r ps vs bs b) = i := by
    show (theB (cur s c g e u n r ps vs bs b)).code.getLast?.getD instrZ = i
    rw [theB_cur, hb]
    exact getD_snoc _ _ _
  refine step_of (head_name h1 _) ?_
  rw [disp_at]
  unfold frmD
  rw [if_neg (by decide), take_name h1]
  simp only
  rw [take_name h2]
  simp only
  rw [take_count h3 h4 (by decide)]
  simp only
  rw [take_all (put := bindL) (fun z hz l => take_bind (hI z hz) (List.all_eq_true.1 h6 z hz) l) (fun z _ => by simp [bindL]) _ (Nat.le_refl _)]
  simp only
  rw [hth, no_more (by omega), no_more (by omega), frmP, inB_cur, hb, last_snoc]
  rfl
theorem step_virt {i : Instr} {f : Virt} (hp : stB pl 384 = true) (hI : ∀ a ∈ f.vals, argI a) (h : virtR f = true) (hl : i.objs.length < 99) (hb : b.code = k ++ [i]) :
    step (cur s c g e u n r ps vs bs b, pl, lg) (virtL f) = some (cur s c g e u n r ps vs bs { b with code := k ++ [{ i with objs := i.objs ++ [f] }] }, 256, lg) := by
  simp only [virtR, allR, Bool.and_eq_true, decide_eq_true_eq] at h
  obtain ⟨h1, h2, h3⟩ := h
  have hth : theI (cur s c g e u n r ps vs bs b) = i := by
    show (theB (cur s c g e u n r ps vs bs b)).code.getLast?.getD instrZ = i
    rw [theB_cur, hb]
    exact getD_snoc _ _ _
  refine step_of (head_name h1 _) ?_
  rw [disp_obj]
  unfold objD
  rw [if_neg (by simp [hp]), take_name h1]
  simp only
  rw [take_each (fun y hy l => take_val (hI y hy) (List.all_eq_true.1 h3 y hy) l)]
  simp only
  rw [if_neg (by omega), hth, no_more (by omega), objP, inB_cur, hb, last_snoc]
  rfl

/-! ### many lines -/
theorem read_fields {m : Wd} (fs : List Var) : ∀ (d : List Var), (∀ v ∈ fs, varR v = true) → d.length + fs.length ≤ 8 →
    readW (⟨s, c ++ [⟨m, d⟩], g, e, u⟩, 4, lg) (fs.map (varL kField)) = some (⟨s, c ++ [⟨m, d ++ fs⟩], g, e, u⟩, 4, lg) := by
  induction fs with
  | nil => intro d _ _; simp [readW]
  | cons v fs ih =>
    intro d hv hl
    simp only [List.length_cons] at hl
    rw [List.map_cons, readW_cons (step_field (hv v (by simp)) (by omega)), ih _ (fun x hx => hv x (by simp [hx])) (by simp; omega)]
    simp
theorem out_4 : stB 4 519 = true := by decide
theorem read_classes (cs : List Class) : ∀ (c : List Class) (pl : Int), stB pl 519 = true → (∀ x ∈ cs, classR x = true) → c.length + cs.length ≤ 8 →
    ∃ pl2, stB pl2 519 = true ∧ readW (⟨s, c, g, e, u⟩, pl, lg) (cs.flatMap classLs) = some (⟨s, c ++ cs, g, e, u⟩, pl2, lg) := by
  induction cs with
  | nil => intro c pl hp _ _; exact ⟨pl, hp, by simp [readW]⟩
  | cons x cs ih =>
    intro c pl hp hR hl
    simp only [List.length_cons] at hl
    have hx := hR x (by simp)
    simp only [classR, allR, Bool.and_eq_true, decide_eq_true_eq, List.all_eq_true] at hx
    obtain ⟨pl2, h1, h2⟩ := ih (c ++ [x]) 4 out_4 (fun y hy => hR y (by simp [hy])) (by simp; omega)
    refine ⟨pl2, h1, ?_⟩
    rw [List.flatMap_cons]
    have hc : readW (⟨s, c, g, e, u⟩, pl, lg) (classLs x) = some (⟨s, c ++ [x], g, e, u⟩, 4, lg) := by
      unfold classLs
      rw [readW_cons (step_class hp hx.1 (by simp only; omega))]
      have := read_fields (s := s) (c := c) (g := g) (e := e) (u := u) (lg := lg) (m := x.name) x.fields [] hx.2.2 (by simp; exact hx.2.1)
      simpa using this
    rw [readW_app hc, h2]
    simp
theorem read_globals (vs : List Var) : ∀ (g : List Var) (pl : Int), stB pl 519 = true → (∀ x ∈ vs, varR x = true) → g.length + vs.length ≤ 8 →
    ∃ pl2, stB pl2 519 = true ∧ readW (⟨s, c, g, e, u⟩, pl, lg) (vs.map (varL kGlobal)) = some (⟨s, c, g ++ vs, e, u⟩, pl2, lg) := by
  induction vs with
  | nil => intro g pl hp _ _; exact ⟨pl, hp, by simp [readW]⟩
  | cons x vs ih =>
    intro g pl hp hR hl
    simp only [List.length_cons] at hl
    obtain ⟨pl2, h1, h2⟩ := ih (g ++ [x]) 2 (by decide) (fun y hy => hR y (by simp [hy])) (by simp; omega)
    refine ⟨pl2, h1, ?_⟩
    rw [List.map_cons, readW_cons (step_global hp (hR x (by simp)) (by simp only; omega)), h2]
    simp
theorem read_externs (vs : List Extern) : ∀ (e : List Extern) (pl : Int), stB pl 519 = true → (∀ x ∈ vs, externR x = true) → e.length + vs.length ≤ 8 →
    ∃ pl2, stB pl2 519 = true ∧ readW (⟨s, c, g, e, u⟩, pl, lg) (vs.map externL) = some (⟨s, c, g, e ++ vs, u⟩, pl2, lg) := by
  induction vs with
  | nil => intro g pl hp _ _; exact ⟨pl, hp, by simp [readW]⟩
  | cons x vs ih =>
    intro e pl hp hR hl
    simp only [List.length_cons] at hl
    obtain ⟨pl2, h1, h2⟩ := ih (e ++ [x]) 2 (by decide) (fun y hy => hR y (by simp [hy])) (by simp; omega)
    refine ⟨pl2, h1, ?_⟩
    rw [List.map_cons, readW_cons (step_extern hp (hR x (by simp)) (by simp only; omega)), h2]
    simp
theorem read_params (xs : List Var) : ∀ (ps : List Var), (∀ x ∈ xs, varR x = true) → ps.length + xs.length ≤ 6 →
    readW (⟨s, c, g, e, u ++ [⟨n, r, ps, [], []⟩]⟩, 8, lg) (xs.map (varL kParam)) = some (⟨s, c, g, e, u ++ [⟨n, r, ps ++ xs, [], []⟩]⟩, 8, lg) := by
  induction xs with
  | nil => intro ps _ _; simp [readW]
  | cons x xs ih =>
    intro ps hR hl
    simp only [List.length_cons] at hl
    rw [List.map_cons, readW_cons (step_param (hR x (by simp)) (by omega)), ih _ (fun y hy => hR y (by simp [hy])) (by simp; omega)]
    simp
theorem read_vars (xs : List Var) : ∀ (vs : List Var) (pl : Int), (pl = 8 ∨ pl = 16) → (∀ x ∈ xs, varR x = true) → vs.length + xs.length ≤ 1024 →
    ∃ pl2, (pl2 = 8 ∨ pl2 = 16) ∧ readW (⟨s, c, g, e, u ++ [⟨n, r, ps, vs, []⟩]⟩, pl, lg) (xs.map (varL kVar)) = some (⟨s, c, g, e, u ++ [⟨n, r, ps, vs ++ xs, []⟩]⟩, pl2, lg) := by
  induction xs with
  | nil => intro vs pl hp _ _; exact ⟨pl, hp, by simp [readW]⟩
  | cons x xs ih =>
    intro vs pl hp hR hl
    simp only [List.length_cons] at hl
    obtain ⟨pl2, h1, h2⟩ := ih (vs ++ [x]) 16 (.inr rfl) (fun y hy => hR y (by simp [hy])) (by simp; omega)
    refine ⟨pl2, h1, ?_⟩
    rw [List.map_cons, readW_cons (step_var (by rcases hp with rfl | rfl <;> decide) (hR x (by simp)) (by omega)), h2]
    simp
theorem read_phis (xs : List Phi) : ∀ (b : Api.Block) (lg : Int), (∀ x ∈ xs, phiR x = true ∧ phiI x) → lg + (xs.length : Int) ≤ 1024 →
    readW (cur s c g e u n r ps vs bs b, 32, lg) (xs.map phiL) = some (cur s c g e u n r ps vs bs { b with phis := b.phis ++ xs }, 32, lg + (xs.length : Int)) := by
  induction xs with
  | nil => intro b lg _ _; simp [readW]
  | cons x xs ih =>
    intro b lg hR hl
    simp only [List.length_cons] at hl
    have hx := hR x (by simp)
    rw [List.map_cons, readW_cons (step_phi hx.2 hx.1 (by omega)), ih _ _ (fun y hy => hR y (by simp [hy])) (by omega)]
    simp
    omega
theorem read_frames (xs : List Api.Frame) : ∀ (i : Instr) (b : Api.Block), b.code = k ++ [i] → (∀ x ∈ xs, frameR x = true ∧ ∀ b ∈ x.vars, argI b.a) → i.frames.length + xs.length ≤ 16 →
    readW (cur s c g e u n r ps vs bs b, 128, lg) (xs.map frameL) = some (cur s c g e u n r ps vs bs { b with code := k ++ [{ i with frames := i.frames ++ xs }] }, 128, lg) := by
  induction xs with
  | nil => intro i b hb _ _; simp [readW, ← hb]
  | cons x xs ih =>
    intro i b hb hR hl
    simp only [List.length_cons] at hl
    have hx := hR x (by simp)
    rw [List.map_cons, readW_cons (step_frame hx.2 hx.1 (by omega) hb), ih { i with frames := i.frames ++ [x] } _ rfl (fun y hy => hR y (by simp [hy])) (by simp; omega)]
    simp
theorem read_virts (xs : List Virt) : ∀ (i : Instr) (b : Api.Block) (pl : Int), (pl = 128 ∨ pl = 256) → b.code = k ++ [i] → (∀ x ∈ xs, virtR x = true ∧ ∀ a ∈ x.vals, argI a) → i.objs.length + xs.length ≤ 99 →
    ∃ pl2, (pl2 = 128 ∨ pl2 = 256) ∧ readW (cur s c g e u n r ps vs bs b, pl, lg) (xs.map virtL) = some (cur s c g e u n r ps vs bs { b with code := k ++ [{ i with objs := i.objs ++ xs }] }, pl2, lg) := by
  induction xs with
  | nil => intro i b pl hp hb _ _; exact ⟨pl, hp, by simp [readW, ← hb]⟩
  | cons x xs ih =>
    intro i b pl hp hb hR hl
    simp only [List.length_cons] at hl
    have hx := hR x (by simp)
    obtain ⟨pl2, h1, h2⟩ := ih { i with objs := i.objs ++ [x] } { b with code := k ++ [{ i with objs := i.objs ++ [x] }] } 256 (.inr rfl) rfl (fun y hy => hR y (by simp [hy])) (by simp; omega)
    refine ⟨pl2, h1, ?_⟩
    rw [List.map_cons, readW_cons (step_virt (by rcases hp with rfl | rfl <;> decide) hx.2 hx.1 (by omega) hb), h2]
    simp
theorem behind_in {op : Int} : stB (behindV op) 480 = true := by unfold behindV; split <;> decide
theorem read_ins {i : Instr} (hs : stB pl 480 = true) (hI : instrI i) (h : instrR i = true) (hl : lg < 1024) :
    ∃ pl2, stB pl2 480 = true ∧ readW (cur s c g e u n r ps vs bs b, pl, lg) (instrLs i) = some (cur s c g e u n r ps vs bs { b with code := b.code ++ [i] }, pl2, lg + 1) := by
  have hst : stateR i = true := by simp only [instrR, Bool.and_eq_true] at h; exact h.2.2.2.2.2
  have h1 := step_ins (s := s) (c := c) (g := g) (e := e) (u := u) (n := n) (r := r) (ps := ps) (vs := vs) (bs := bs) (b := b) hs hI.1 h hl
  unfold instrLs
  unfold stateR at hst
  split at hst
  · simp only [Bool.and_eq_true, decide_eq_true_eq] at hst
    have e1 := List.eq_nil_of_length_eq_zero hst.1
    have e2 := List.eq_nil_of_length_eq_zero hst.2
    clear hst
    refine ⟨behindV i.op, behind_in, ?_⟩
    rw [readW_cons h1, e1, e2]
    obtain ⟨a1, a2, a3, a4, a5, a6⟩ := i
    simp only at e1 e2
    subst e1 e2
    rfl
  · rename_i hop
    simp only [allR, Bool.and_eq_true, decide_eq_true_eq, List.all_eq_true] at hst
    obtain ⟨⟨f1, f2⟩, o1, o2⟩ := hst
    have hb : behindV i.op = 128 := by unfold behindV; rw [if_pos (by omega)]
    rw [hb] at h1
    have h2 := read_frames (s := s) (c := c) (g := g) (e := e) (u := u) (n := n) (r := r) (ps := ps) (vs := vs) (bs := bs) (lg := lg + 1) (k := b.code) i.frames { i with frames := [], objs := [] } { b with code := b.code ++ [{ i with frames := [], objs := [] }] } rfl (fun x hx => ⟨f2 x hx, hI.2.1 x hx⟩) (by simpa using f1)
    obtain ⟨pl2, hp, h3⟩ := read_virts (s := s) (c := c) (g := g) (e := e) (u := u) (n := n) (r := r) (ps := ps) (vs := vs) (bs := bs) (lg := lg + 1) (k := b.code) i.objs { i with objs := [] } { b with code := b.code ++ [{ i with objs := [] }] } 128 (.inl rfl) rfl (fun x hx => ⟨o2 x hx, hI.2.2 x hx⟩) (by simpa using o1)
    refine ⟨pl2, by rcases hp with rfl | rfl <;> decide, ?_⟩
    rw [readW_cons h1, readW_app h2]
    simp only [List.nil_append] at h3 ⊢
    exact h3
theorem read_code (xs : List Instr) : ∀ (b : Api.Block) (pl lg : Int), stB pl 480 = true → (∀ x ∈ xs, instrR x = true ∧ instrI x) → lg + (xs.length : Int) ≤ 1024 →
    ∃ pl2, stB pl2 480 = true ∧ readW (cur s c g e u n r ps vs bs b, pl, lg) (xs.flatMap instrLs) = some (cur s c g e u n r ps vs bs { b with code := b.code ++ xs }, pl2, lg + (xs.length : Int)) := by
  induction xs with
  | nil => intro b pl lg hp _ _; exact ⟨pl, hp, by simp [readW]⟩
  | cons x xs ih =>
    intro b pl lg hp hR hl
    simp only [List.length_cons] at hl
    have hx := hR x (by simp)
    obtain ⟨pl2, h1, h2⟩ := read_ins (s := s) (c := c) (g := g) (e := e) (u := u) (n := n) (r := r) (ps := ps) (vs := vs) (bs := bs) (b := b) hp hx.2 hx.1 (lg := lg) (by omega)
    obtain ⟨pl3, h3, h4⟩ := ih { b with code := b.code ++ [x] } pl2 (lg + 1) h1 (fun y hy => hR y (by simp [hy])) (by omega)
    refine ⟨pl3, h3, ?_⟩
    rw [List.flatMap_cons, readW_app h2, h4]
    simp
    omega
theorem fin_kind {t : Api.Term} (h : finR t = true) : 1 ≤ t.kind ∧ t.kind ≤ 4 := by
  unfold finR at h
  repeat' split at h
  all_goals first | omega | simp at h
theorem finLs_of {t : Api.Term} (h : finR t = true) : finLs t = [endL t] := by
  unfold finLs
  have := fin_kind h
  rw [if_neg (by omega)]
theorem read_block {x : Api.Block} (hp : stB pl 536 = true) (hR : blockR x = true) (hI : blockI x) (hb : bs.length < 256) (hl : lg + (longB x : Int) ≤ 1024) :
    readW (⟨s, c, g, e, u ++ [⟨n, r, ps, vs, bs⟩]⟩, pl, lg) (blockLs x) = some (cur s c g e u n r ps vs bs x, 512, lg + (longB x : Int)) := by
  simp only [blockR, allR, Bool.and_eq_true, decide_eq_true_eq, List.all_eq_true] at hR
  obtain ⟨h1, ⟨h2, h3⟩, ⟨h4, h5⟩, h6⟩ := hR
  unfold longB at hl ⊢
  unfold blockLs
  rw [finLs_of h6, readW_cons (step_block hp h1 hb)]
  have k1 := read_phis (s := s) (c := c) (g := g) (e := e) (u := u) (n := n) (r := r) (ps := ps) (vs := vs) (bs := bs) x.phis ⟨x.name, [], [], termZ⟩ lg (fun y hy => ⟨h3 y hy, hI.1 y hy⟩) (by omega)
  rw [readW_app k1]
  obtain ⟨pl2, k2, k3⟩ := read_code (s := s) (c := c) (g := g) (e := e) (u := u) (n := n) (r := r) (ps := ps) (vs := vs) (bs := bs) x.code ⟨x.name, [] ++ x.phis, [], termZ⟩ 32 (lg + x.phis.length) (by decide) (fun y hy => ⟨h5 y hy, hI.2.1 y hy⟩) (by omega)
  rw [readW_app k3, readW_cons (step_fin k2 hI.2.2 h6)]
  simp [readW]
  omega
theorem read_blocks (xs : List Api.Block) : ∀ (bs : List Api.Block) (pl lg : Int), stB pl 536 = true → (∀ x ∈ xs, blockR x = true ∧ blockI x) → bs.length + xs.length ≤ 256 → lg + (longF xs : Int) ≤ 1024 →
    ∃ pl2, (pl2 = 512 ∨ (xs = [] ∧ pl2 = pl)) ∧ readW (⟨s, c, g, e, u ++ [⟨n, r, ps, vs, bs⟩]⟩, pl, lg) (xs.flatMap blockLs) = some (⟨s, c, g, e, u ++ [⟨n, r, ps, vs, bs ++ xs⟩]⟩, pl2, lg + (longF xs : Int)) := by
  induction xs with
  | nil => intro bs pl lg hp _ _ _; exact ⟨pl, .inr ⟨rfl, rfl⟩, by simp [readW, longF]⟩
  | cons x xs ih =>
    intro bs pl lg hp hR hb hl
    have hlx : longF (x :: xs) = longB x + longF xs := by simp [longF]
    rw [hlx] at hl ⊢
    simp only [List.length_cons] at hb
    have hx := hR x (by simp)
    obtain ⟨pl3, h3, h4⟩ := ih (bs ++ [x]) 512 (lg + (longB x : Int)) (by decide) (fun y hy => hR y (by simp [hy])) (by simp; omega) (by omega)
    refine ⟨pl3, .inl ?_, ?_⟩
    · rcases h3 with h3 | ⟨_, h3⟩ <;> exact h3
    rw [List.flatMap_cons, readW_app (read_block hp hx.1 hx.2 (by omega) (by omega)), h4]
    simp
    omega
theorem read_func {x : Api.Func} (hp : stB pl 519 = true) (hR : funcR x = true) (hI : funcI x) (hl : u.length < 8) :
    ∃ lg2, readW (⟨s, c, g, e, u⟩, pl, lg) (funcLs x) = some (⟨s, c, g, e, u ++ [x]⟩, 512, lg2) := by
  simp only [funcR, allR, Bool.and_eq_true, decide_eq_true_eq, List.all_eq_true] at hR
  obtain ⟨h1, h2, ⟨h3, h4⟩, ⟨h5, h6⟩, ⟨h7, h8⟩, h9, h10⟩ := hR
  unfold funcLs
  rw [readW_cons (step_func hp h1 h2 hl), readW_app (read_params (s := s) (c := c) (g := g) (e := e) (u := u) (n := x.name) (r := x.result) (lg := 0) x.params [] h4 (by simpa using h3))]
  obtain ⟨pl2, k1, k2⟩ := read_vars (s := s) (c := c) (g := g) (e := e) (u := u) (n := x.name) (r := x.result) (ps := [] ++ x.params) (lg := 0) x.vars [] 8 (.inl rfl) h6 (by simpa using h5)
  rw [readW_app k2]
  obtain ⟨pl3, k3, k4⟩ := read_blocks (s := s) (c := c) (g := g) (e := e) (u := u) (n := x.name) (r := x.result) (ps := [] ++ x.params) (vs := [] ++ x.vars) x.blocks [] pl2 0 (by rcases k1 with rfl | rfl <;> decide) (fun y hy => ⟨h10 y hy, hI y hy⟩) (by simpa using h9) (by omega)
  have hpl : pl3 = 512 := by
    rcases k3 with k3 | ⟨k3, _⟩
    · exact k3
    · rw [k3] at h7; simp at h7
  subst hpl
  exact ⟨_, k4⟩
theorem read_funcs (xs : List Api.Func) : ∀ (u : List Api.Func) (pl lg : Int), stB pl 519 = true → (∀ x ∈ xs, funcR x = true ∧ funcI x) → u.length + xs.length ≤ 8 →
    ∃ pl2 lg2, stB pl2 519 = true ∧ readW (⟨s, c, g, e, u⟩, pl, lg) (xs.flatMap funcLs) = some (⟨s, c, g, e, u ++ xs⟩, pl2, lg2) := by
  induction xs with
  | nil => intro u pl lg hp _ _; exact ⟨pl, lg, hp, by simp [readW]⟩
  | cons x xs ih =>
    intro u pl lg hp hR hl
    simp only [List.length_cons] at hl
    have hx := hR x (by simp)
    obtain ⟨lg2, h1⟩ := read_func (s := s) (c := c) (g := g) (e := e) (u := u) (lg := lg) hp hx.1 hx.2 (by omega)
    obtain ⟨pl3, lg3, h3, h4⟩ := ih (u ++ [x]) 512 lg2 (by decide) (fun y hy => hR y (by simp [hy])) (by simp; omega)
    refine ⟨pl3, lg3, h3, ?_⟩
    rw [List.flatMap_cons, readW_app h1, h4]
    simp
end
/-- A right program's lines are read as it. -/
theorem read_there {p : Prog} (hR : progR p = true) (hI : progI p) : ∃ pl lg, readW (⟨false, [], [], [], []⟩, 1, 0) (progLs p) = some (p, pl, lg) ∧ stB pl 519 = true := by
  simp only [progR, allR, Bool.and_eq_true, decide_eq_true_eq, List.all_eq_true] at hR
  obtain ⟨⟨h1, h2⟩, ⟨h3, h4⟩, ⟨h5, h6⟩, h7, h8⟩ := hR
  have h0 : ∃ pl, stB pl 519 = true ∧ readW (⟨false, [], [], [], []⟩, 1, 0) (if p.ssa then [[kSsa]] else []) = some (⟨p.ssa, [], [], [], []⟩, pl, 0) := by
    cases p.ssa with
    | false => exact ⟨1, by decide, rfl⟩
    | true => exact ⟨2, by decide, by rw [if_pos rfl, readW_cons step_ssa]; rfl⟩
  obtain ⟨pl0, k0, r0⟩ := h0
  obtain ⟨pl1, k1, r1⟩ := read_classes (s := p.ssa) (g := []) (e := []) (u := []) (lg := 0) p.classes [] pl0 k0 h2 (by simpa using h1)
  obtain ⟨pl2, k2, r2⟩ := read_globals (s := p.ssa) (c := [] ++ p.classes) (e := []) (u := []) (lg := 0) p.globals [] pl1 k1 h4 (by simpa using h3)
  obtain ⟨pl3, k3, r3⟩ := read_externs (s := p.ssa) (c := [] ++ p.classes) (g := [] ++ p.globals) (u := []) (lg := 0) p.externs [] pl2 k2 h6 (by simpa using h5)
  obtain ⟨pl4, lg4, k4, r4⟩ := read_funcs (s := p.ssa) (c := [] ++ p.classes) (g := [] ++ p.globals) (e := [] ++ p.externs) p.funcs [] pl3 0 k3 (fun x hx => ⟨h8 x hx, hI x hx⟩) (by simpa using h7)
  refine ⟨pl4, lg4, ?_, k4⟩
  unfold progLs
  rw [readW_app r0, readW_app r1, readW_app r2, readW_app r3, r4]
  rfl
end Go.Proofs.YtkfpcaganhmkcaaDoor.Rd5
