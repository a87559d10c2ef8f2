/-
  TyFew TyKeep HpApp
-/
import Derived.Test.YtikfncgdjnljiaaDoorFew5
import Derived.Test.YtikfncgdjnljiaaDoorLaw07
import Derived.Test.YtikfncgdjnljiaaDoorOpenP
import Derived.Test.YtikfncgdjnljiaaDoorTySuits
import Derived.Test.YtikfncgdjnljiaaDoorMem
import Derived.Test.YtikfncgdjnljiaaDoorHold
import Derived.Test.YtikfncgdjnljiaaDoorPlainS
import Derived.WalkKit
import Derived.Laws.AppendOwn
import Derived.Laws.AppendOwnNone
import Derived.Deep.RegionLaw
import Derived.Below
/-
  Layer 7: whether a program and a function have few parts.
-/
namespace Go.Proofs.YtikfncgdjnljiaaDoor.L07
open Go.RowKit Api Syn WordM Mem Ty7 Few6

/-- few parts, as they are used. -/
structure FewT (q : Prog) (f : Api.Func) : Prop where
  cl : q.classes.length ≤ 50
  ex : q.externs.length ≤ 50
  fu : q.funcs.length ≤ 50
  gl : q.globals.length ≤ 20000
  ps : f.params.length ≤ 20000
  vs : f.vars.length ≤ 20000
  all : cProg q ≤ 20000
theorem few_of {q : Prog} {f : Api.Func} (h : fewB 20000 q = true) (hf : cFunc f ≤ 20000) : FewT q f := by
  unfold fewB at h
  simp only [Bool.and_eq_true, decide_eq_true_iff] at h
  obtain ⟨h1, h2, h3, h4⟩ := h
  refine ⟨h1, h2, h3, ?_, ?_, ?_, h4⟩
  · unfold cProg cVars at h4; omega
  · unfold cFunc cVars at hf; omega
  · unfold cFunc cVars at hf; omega
set_option maxRecDepth 100000 in
set_option maxHeartbeats 8000000 in
theorem few7_any (hi : Nat) (w : World) (cs cf : List Value) (q : Prog) (f : Api.Func) (hq : ProgC 0 hi w cs q) (hf : FuncC 0 hi w cf f) (hh : hi ≤ w.heap.size) (hG : progS q) (hGf : funcS f) :
    Calls Tryd.prog 10 #[.agg cs.toArray, .agg cf.toArray] w fun e w' => ∃ b : Bool, e = .returned (.bool b) ∧ (b = true → FewT q f) ∧ Below w.heap.size w w' := by
  have HPC := Lib.hid hq
  have HFC := Lib.hid hf
  obtain ⟨u1, u2, u3, u4, rfl, k1, k2, k3, k4⟩ := hq
  obtain ⟨f1, f2, f3, rfl, j1, j2, j3⟩ := hf
  obtain ⟨B1, c1, rfl⟩ := k1.form
  obtain ⟨B2, c2, rfl⟩ := k2.form
  obtain ⟨B3, c3, rfl⟩ := k3.form
  obtain ⟨B4, c4, rfl⟩ := k4.form
  obtain ⟨D1, d1, rfl⟩ := j1.form
  obtain ⟨D2, d2, rfl⟩ := j2.form
  obtain ⟨D3, d3, rfl⟩ := j3.form
  obtain ⟨W, hW⟩ : ∃ W, (w.alloc (.cells #[.bool q.ssa, .slice B1 q.classes.length c1, .slice B2 q.globals.length c2, .slice B3 q.externs.length c3, .slice B4 q.funcs.length c4] 27)).alloc (.cells #[str f.name, str f.result, .slice D1 f.params.length d1, .slice D2 f.vars.length d2, .slice D3 f.blocks.length d3] 30) = W := ⟨_, rfl⟩
  have HB := Lib.hid (show Below w.heap.size w W by rw [← hW]; exact ((Below.refl _ _).alloc (Nat.le_refl _) _).alloc (by simp) _)
  have HOF := Lib.hid (show Own W (w.heap.size + 1) 30 [str f.name, str f.result, .slice D1 f.params.length d1, .slice D2 f.vars.length d2, .slice D3 f.blocks.length d3] by rw [← hW]; exact made7 (by simp) _ _)
  have HW := Lib.hid hW
  have QF := Lib.hid (few_any 0 hi W _ q (ProgC.move (Still.of_below (HB.out.mono hh)) HPC.out) (Nat.le_trans hh HB.out.size) 20000 (by omega) hG)
  have HGF := Lib.hid hGf
  clear hW k1 k2 k3 k4 j1 j2 j3 hG hGf
  go_enter Tryd.func10, Tryd.ntmps10
  go_wp2_with fail
  rw [HW.out]
  refine QF.out.mono ?_
  obtain ⟨b, hb⟩ : ∃ b, fewB 20000 q = b := ⟨_, rfl⟩
  rw [hb]
  have HFB := Lib.hid hb
  clear hb
  rintro e w1 ⟨rfl, hb1⟩
  have HB1 := Lib.hid (HB.out.trans (hb1.mono HB.out.size))
  have HO1 := Lib.hid (HOF.out.below hb1 HOF.out.lt)
  clear hb1
  have f0 := (HO1.out.cell 0).trans rfl
  have f1 := (HO1.out.cell 1).trans rfl
  have f2 := (HO1.out.cell 2).trans rfl
  have f3 := (HO1.out.cell 3).trans rfl
  have f4 := (HO1.out.cell 4).trans rfl
  have fl := HO1.out.lt
  cases b with
  | false =>
    go_wp2_with fail
    go_ret
    exact ⟨false, rfl, (fun h => by cases h), HB1.out⟩
  | true =>
    have QC := Lib.hid (cntFunc_any 0 hi w1 _ f (FuncC.move (Still.of_below (HB1.out.mono hh)) HFC.out) (Nat.le_trans hh HB1.out.size) 20000 (by omega) HGF.out)
    go_wp2_with fail
    refine QC.out.mono ?_
    rintro e w2 ⟨n, rfl, hc, hb2⟩
    have HB2 := Lib.hid (HB1.out.trans (hb2.mono HB1.out.size))
    clear hb2
    rcases hc with ⟨h1, rfl⟩ | ⟨h1, h2, _⟩
    · have HF := Lib.hid (few_of HFB.out h1)
      have hd : decide ((cFunc f : Int) ≤ 20000) = true := decide_eq_true (by omega)
      clear h1
      go_wp2_with fail
      go_ret
      exact ⟨true, rfl, (fun _ => HF.out), HB2.out⟩
    · have hd : decide ((n : Int) ≤ 20000) = false := decide_eq_false (by omega)
      clear h1
      go_wp2_with fail
      go_ret
      exact ⟨false, rfl, (fun h => by cases h), HB2.out⟩
open OpenP
theorem instr_s {x : Instr} (h : instrG x) : instrS x := ⟨h.1.2, (fun a ha => (h.2.1 a ha).2), (fun f hf => ⟨(h.2.2.1 f hf).1.1, (h.2.2.1 f hf).1.2, fun b hb => ⟨((h.2.2.1 f hf).2.2 b hb).1, (((h.2.2.1 f hf).2.2 b hb).2).2⟩⟩), fun o ho => ⟨(h.2.2.2 o ho).1, fun a ha => ((h.2.2.2 o ho).2 a ha).2⟩⟩
theorem block_s {b : Api.Block} (h : blockG b) : blockS b := ⟨⟨h.1, h.2.2.2.2.1.2⟩, h.2.2.2.2.2.1, (fun p hp => ⟨(h.2.1 p hp).1, fun b hb => ⟨((h.2.1 p hp).2 b hb).1, (((h.2.1 p hp).2 b hb).2).2⟩⟩), fun i hi => instr_s (h.2.2.1 i hi)⟩
theorem func_s {f : Api.Func} (h : funcG f) : funcS f := ⟨h.1, h.2.1, h.2.2.1, fun b hb => block_s (h.2.2.2 b hb)⟩
theorem prog_s {p : Prog} (h : progG p) : progS p := ⟨h.1, h.2.1, (fun e he => (h.2.2.1 e he).1), fun f hf => func_s (h.2.2.2 f hf)⟩
end Go.Proofs.YtikfncgdjnljiaaDoor.L07

/-
  Layer 7, plainly: with more declared behind the others an instruction keeps its types.
-/
namespace Go.Proofs.YtikfncgdjnljiaaDoor.Ty7
open Api Syn

/-- q and g have what p and f have, where they have it. -/
structure More (p q : Prog) (f g : Api.Func) : Prop where
  kc : ∀ s x, classIn p.classes s = some x → classIn q.classes s = some x
  kg : ∀ s x, varIn p.globals s = some x → varIn q.globals s = some x
  ke : ∀ s x, extIn p.externs s = some x → extIn q.externs s = some x
  kf : ∀ s x, funcIn p.funcs s = some x → funcIn q.funcs s = some x
  kv : ∀ s x, varOf f s = some x → varOf g s = some x
theorem More.typeA {p q : Prog} {f g : Api.Func} (m : More p q f g) {a : Arg} {t : Wd} (h : typeA f a = some t) : Ty7.typeA g a = some t := by
  unfold Ty7.typeA at h ⊢
  split at h
  · rename_i e
    rw [if_pos e]
    obtain ⟨v, hv, rfl⟩ := Option.map_eq_some_iff.1 h
    rw [m.kv _ _ hv]
    rfl
  · rename_i e
    rw [if_neg e]
    exact h
theorem More.typesA {p q : Prog} {f g : Api.Func} (m : More p q f g) : ∀ {l : List Arg} {ts : List Wd}, typesA f l = some ts → Ty7.typesA g l = some ts
  | [], ts, h => h
  | a :: l, ts, h => by
    unfold Ty7.typesA at h ⊢
    cases e : Ty7.typeA f a with
    | none => rw [e] at h; cases h
    | some t =>
      rw [e] at h
      rw [m.typeA e]
      simp only at h ⊢
      obtain ⟨r, hr, rfl⟩ := Option.map_eq_some_iff.1 h
      rw [m.typesA hr]
      rfl
theorem More.field {p q : Prog} {f g : Api.Func} (m : More p q f g) {c s : Wd} {v : Var} (h : fieldIn p c s = some v) : fieldIn q c s = some v := by
  unfold fieldIn at h ⊢
  cases e : classIn p.classes c with
  | none => rw [e] at h; cases h
  | some k =>
    rw [e] at h
    rw [m.kc _ _ e]
    exact h
theorem More.suits {p q : Prog} {f g : Api.Func} (m : More p q f g) {x : Instr} {ts : List Wd} {d : Wd} (h : suitsT p x ts d = true) : suitsT q x ts d = true := by
  unfold suitsT at h ⊢
  split
  · rename_i e; rw [if_pos e] at h; exact h
  rename_i e; rw [if_neg e] at h
  split
  · rename_i e; rw [if_pos e] at h
    cases k : classIn p.classes x.name with
    | none => rw [k] at h; cases h
    | some y => rw [k] at h; rw [m.kc _ _ k]; exact h
  rename_i e; rw [if_neg e] at h
  split
  · rename_i e; rw [if_pos e] at h
    cases k : fieldIn p (ts.getD 0 []) x.name with
    | none => rw [k] at h; cases h
    | some y => rw [k] at h; rw [m.field k]; exact h
  rename_i e; rw [if_neg e] at h
  split
  · rename_i e; rw [if_pos e] at h
    cases k : fieldIn p (ts.getD 0 []) x.name with
    | none => rw [k] at h; cases h
    | some y => rw [k] at h; rw [m.field k]; exact h
  rename_i e; rw [if_neg e] at h
  split
  · rename_i e; rw [if_pos e] at h; exact h
  rename_i e; rw [if_neg e] at h
  split
  · rename_i e; rw [if_pos e] at h
    cases k : varIn p.globals x.name with
    | none => rw [k] at h; cases h
    | some y => rw [k] at h; rw [m.kg _ _ k]; exact h
  rename_i e; rw [if_neg e] at h
  split
  · rename_i e; rw [if_pos e] at h
    cases k : varIn p.globals x.name with
    | none => rw [k] at h; cases h
    | some y => rw [k] at h; rw [m.kg _ _ k]; exact h
  rename_i e; rw [if_neg e] at h
  split
  · rename_i e; rw [if_pos e] at h
    cases k : funcIn p.funcs x.name with
    | none => rw [k] at h; cases h
    | some y => rw [k] at h; rw [m.kf _ _ k]; exact h
  rename_i e; rw [if_neg e] at h
  split
  · rename_i e; rw [if_pos e] at h
    cases k : extIn p.externs x.name with
    | none => rw [k] at h; cases h
    | some y => rw [k] at h; rw [m.ke _ _ k]; exact h
  rename_i e; rw [if_neg e] at h
  exact h
theorem no_dst {op : Int} (h1 : (formV op).2 = true) (h2 : (formV op).1.dst = false) : op = 27 ∨ op = 30 ∨ op = 33 ∨ op = 34 := by
  have hb := form_bounds h1
  have key : ∀ n : Nat, n < 35 → 1 ≤ n → (formV (n : Int)).1.dst = false → n = 27 ∨ n = 30 ∨ n = 33 ∨ n = 34 := by decide
  have := key op.toNat (by omega) (by omega) (by rw [show ((op.toNat : Nat) : Int) = op by omega]; exact h2)
  omega
theorem suits_any_dst {p : Prog} {x : Instr} {ts : List Wd} {d d' : Wd} (h : x.op = 27 ∨ x.op = 30 ∨ x.op = 33 ∨ x.op = 34) : suitsT p x ts d = suitsT p x ts d' := by
  unfold suitsT
  rcases h with h | h | h | h <;> rw [h] <;> rfl
theorem More.instr {p q : Prog} {f g : Api.Func} (m : More p q f g) {x : Instr} (h : instrT p f x = true) : instrT q g x = true := by
  unfold instrT at h ⊢
  simp only [Bool.and_eq_true] at h ⊢
  obtain ⟨h1, h2, h3, h4, h5⟩ := h
  refine ⟨h1, h2, h3, ?_, ?_⟩
  · rw [Bool.not_eq_true', Bool.and_eq_false_iff] at h4 ⊢
    rcases h4 with h4 | h4
    · exact .inl h4
    · right
      cases e : varOf f x.dst with
      | none => rw [e] at h4; cases h4
      | some v => rw [m.kv _ _ e]; rfl
  · cases e : Ty7.typesA f x.args with
    | none => rw [e] at h5; cases h5
    | some ts =>
      rw [e] at h5
      rw [m.typesA e]
      simp only at h5 ⊢
      have h6 := m.suits h5
      cases e2 : varOf f x.dst with
      | some v =>
        rw [e2] at h6
        rw [m.kv _ _ e2]
        exact h6
      | none =>
        rw [e2] at h6
        have hd : (formV x.op).1.dst = false := by
          rw [Bool.not_eq_true', Bool.and_eq_false_iff] at h4
          rcases h4 with h4 | h4
          · exact h4
          · rw [e2] at h4; cases h4
        rw [suits_any_dst (no_dst h1 hd)]
        exact h6
theorem class_app {l m : List Class} {s : Wd} {x : Class} (h : classIn l s = some x) : classIn (l ++ m) s = some x := by unfold classIn at *; rw [List.find?_append, h]; rfl
theorem var_app {l m : List Var} {s : Wd} {x : Var} (h : varIn l s = some x) : varIn (l ++ m) s = some x := by unfold varIn at *; rw [List.find?_append, h]; rfl
theorem extern_app {l m : List Extern} {s : Wd} {x : Extern} (h : extIn l s = some x) : extIn (l ++ m) s = some x := by unfold extIn at *; rw [List.find?_append, h]; rfl
theorem func_app {l m : List Api.Func} {s : Wd} {x : Api.Func} (h : funcIn l s = some x) : funcIn (l ++ m) s = some x := by unfold funcIn at *; rw [List.find?_append, h]; rfl
theorem more_app (p more : Prog) (f : Api.Func) (v : Var) (s : Bool) : More p ⟨s, p.classes ++ more.classes, p.globals ++ more.globals, p.externs ++ more.externs, p.funcs ++ more.funcs⟩ f ⟨f.name, f.result, f.params, f.vars ++ [v], f.blocks⟩ where
  kc := fun _ _ h => class_app h
  kg := fun _ _ h => var_app h
  ke := fun _ _ h => extern_app h
  kf := fun _ _ h => func_app h
  kv := fun s x h => by
    unfold varOf at h ⊢
    simp only
    cases e : varIn f.params s with
    | some y => rw [e] at h; exact h
    | none =>
      rw [e] at h
      simp only [Option.none_or] at h ⊢
      exact var_app h
end Go.Proofs.YtikfncgdjnljiaaDoor.Ty7

/-
  'append' of a row that is read, and of one thing within a region that draws. No program is named here.
-/
namespace Go.Proofs.YtikfncgdjnljiaaDoor.Hp15
open Go.RowKit Api Mem

theorem read_own15 {P : Program} {w : World} {ops : Array Oper} {rest : List Oper} {o : Oper} {a : Go.Act} {Q : Exit → Go.Act → World → Prop} (hgd : o.guard = none) (s x : Operand) (t : TypeId)
    (ho : o.op = .call { callee := .builtin .append, args := #[s, x], argTypes := #[t, t] })
    (base : Nat) (e : TypeId) (z : Value) (size bytes : Nat) (ht : P.underlying t = some (.slice e)) (hinf : (P.info? e).map (fun i => (i.zero, i.size, i.bytes)) = some (some z, size, bytes)) (hzs : z.cells.size = size) (hsz : 0 < size)
    (v : Value) (n : Nat) (xs : List Value) (hs : a.eval s = v) (hown : w.ownsRow base e size v n xs)
    (b off m cap : Nat) (news : List Value) (hx : a.eval x = .slice (some ⟨b, off, none⟩) m cap) (hl : news.length = m * size) (hc : ∀ j u, news[j]? = some u → w.cell? ⟨b, off + j, none⟩ = some u) (h1 : ∀ u ∈ news, u.oneCell' = true)
    (h63 : n + m ≤ maxLen) (hbytes : (n + m) * bytes ≤ 140737488355328) (hbase : base ≤ w.heap.size)
    (h : ∀ v' w', w'.ownsRow base e size v' (n + m) (xs ++ news) → Below base w w' → wpList P ops Q rest (a.put o.dst v') w') :
    wpList P ops Q (o :: rest) a w := by
  obtain ⟨i, hi, hz0, hz1, hz2⟩ := info_parts hinf
  refine wpList_append_own (w := w) hgd s x t ho base e i z size bytes ht hi hz0 hz1 hz2 hzs hsz v n xs hs hown ⟨b, off, none⟩ m cap news hx hl (fun j u hu => ?_) h1 h63 hbytes hbase ?_
  · have e1 : (⟨b, off, none⟩ : Addr).add j = ⟨b, off + j, none⟩ := by unfold Addr.add; split <;> simp_all
    rw [e1]; exact hc j u hu
  · intro v' w' h2 h3 _
    exact h v' w' h2 ((Below.refl base w).grown h3 hbase (fun k hk => (hown.lt k hk).1))
theorem app_zero15 {P : Program} {w : World} (base : Nat) (t ty e : TypeId) (i : TypeInfo) (size : Nat) (ht : P.underlying t = some (.slice e)) (hi : P.info? e = some i)
    (v : Value) (n : Nat) (xs : List Value) (hown : w.ownsRow base e size v n xs) (A : Option Addr) (c : Nat) :
    (Builtin.append_ #[t, t] ty #[v, .slice A 0 c]).run P w = .ok v w := by
  rcases hown.2 with ⟨rfl, rfl⟩ | ⟨g, cap, cur, rfl, _, _, hnc, _⟩
  · cases A <;> simp [Builtin.append_, run_underlying ht, sizeOf, typeInfo, hi, Builtin.lenOf, Builtin.firstCells, loadCells, loadCellsFrom]
  · cases A <;> simp [Builtin.append_, run_underlying ht, sizeOf, typeInfo, hi, Builtin.lenOf, Builtin.firstCells, hnc, storeCells, loadCells, loadCellsFrom]
/-- a row that is read, be it empty, behind one of the call's own. -/
theorem read_all15 {P : Program} {w : World} {ops : Array Oper} {rest : List Oper} {o : Oper} {a : Go.Act} {Q : Exit → Go.Act → World → Prop} (hgd : o.guard = none) (s x : Operand) (t : TypeId)
    (ho : o.op = .call { callee := .builtin .append, args := #[s, x], argTypes := #[t, t] })
    (base : Nat) (e : TypeId) (z : Value) (size bytes : Nat) (ht : P.underlying t = some (.slice e)) (hinf : (P.info? e).map (fun i => (i.zero, i.size, i.bytes)) = some (some z, size, bytes)) (hzs : z.cells.size = size) (hsz : 0 < size)
    (v : Value) (n : Nat) (xs : List Value) (hs : a.eval s = v) (hown : w.ownsRow base e size v n xs)
    (A : Option Addr) (m cap b off : Nat) (news : List Value) (hx : a.eval x = .slice A m cap) (hA : 0 < m → A = some ⟨b, off, none⟩) (hl : news.length = m * size) (hc : ∀ j u, news[j]? = some u → w.cell? ⟨b, off + j, none⟩ = some u) (h1 : ∀ u ∈ news, u.oneCell' = true)
    (h63 : n + m ≤ maxLen) (hbytes : (n + m) * bytes ≤ 140737488355328) (hbase : base ≤ w.heap.size)
    (h : ∀ v' w', w'.ownsRow base e size v' (n + m) (xs ++ news) → Below base w w' → wpList P ops Q rest (a.put o.dst v') w') :
    wpList P ops Q (o :: rest) a w := by
  by_cases hm : m = 0
  · subst hm
    obtain rfl : news = [] := List.eq_nil_of_length_eq_zero (by simpa using hl)
    obtain ⟨i, hi, hz0, hz1, hz2⟩ := info_parts hinf
    refine wpList_plain hgd fun K hK => ?_
    have hrun := app_zero15 (P := P) (w := w) base t o.type e i size ht hi v n xs hown A cap
    unfold Oper.wp
    simp [execOp, ho, resolve, invoke, builtin, hs, hx, hrun, Result.andThen]
    exact hK _ _ (h v w (by simpa using hown) (Below.refl _ _))
  · obtain rfl := hA (by omega)
    exact read_own15 hgd s x t ho base e z size bytes ht hinf hzs hsz v n xs hs hown b off m cap news hx hl hc h1 h63 hbytes hbase h
theorem step_grow15 {P : Program} {w : World} {ops : Array Oper} {o : Oper} {a : Go.Act} {K : Go.Act → World → Prop} {Q : Exit → Go.Act → World → Prop} {E : Prop} (hgd : o.guard = none) (s x : Operand) (t : TypeId)
    (ho : o.op = .call { callee := .builtin .append, args := #[s, x], argTypes := #[t, t] })
    (base : Nat) (e : TypeId) (size : Nat) (i : TypeInfo) (z : Value) (bytes : Nat) (ht : P.underlying t = some (.slice e)) (hi : P.info? e = some i) (hz : i.zero = some z)
    (hsize : i.size = size) (hby : i.bytes = bytes) (hzs : z.cells.size = size) (hsz : 0 < size)
    (v : Value) (n : Nat) (xs : List Value) (hs : a.eval s = v) (hown : w.ownsRow base e size v n xs)
    (news : List Value) (k : Nat) (hkw : k = w.heap.size) (hx : a.eval x = .slice (some ⟨k, 0, none⟩) 1 1) (hl : news.length = size) (h1 : ∀ u ∈ news, u.oneCell' = true)
    (h63 : n + 1 ≤ 9223372036854775807) (hbytes : (n + 1) * bytes ≤ 140737488355328) (hbase : base ≤ w.heap.size)
    (h : ∀ v' w', w'.ownsRow base e size v' (n + 1) (xs ++ news) → w.grownBy w' v.ownBlock → (v'.ownBlock = v.ownBlock ∨ ∀ k, v'.ownBlock = some k → w.heap.size ≤ k) → K (a.put o.dst v') w') :
    if Region.wanted o (yielded ops a.tmps) = true then Oper.wp P o a (w.alloc (.cells news.toArray e)) K Q else E := by
  have hw : Region.wanted o (yielded ops a.tmps) = true := by simp [Region.wanted, hgd]
  rw [if_pos hw]
  subst hkw
  have ho2 : (w.alloc (.cells news.toArray e)).ownsRow base e size v n xs := World.ownsRow.alloc hown _
  have hnews : ∀ j u, news[j]? = some u → (w.alloc (.cells news.toArray e)).cell? ((⟨w.heap.size, 0, none⟩ : Addr).add j) = some u := by
    intro j u hu
    have e1 : (⟨w.heap.size, 0, none⟩ : Addr).add j = ⟨w.heap.size, j, none⟩ := by unfold Addr.add; split <;> simp_all
    rw [e1, (Mem.Own.made w e news).cell]
    exact hu
  obtain ⟨v', w', hr, h2, h3, _⟩ := run_append_own (P := P) (w.alloc (.cells news.toArray e)) base t o.type e i z size bytes ht hi hz hsize hby hzs hsz v n xs ho2 ⟨w.heap.size, 0, none⟩ 1 1 news (by omega) hnews h1 (by unfold maxLen; omega) hbytes (by simp; omega)
  obtain ⟨v2, w2, hr2, h4⟩ := Hold.append_block (P := P) (w.alloc (.cells news.toArray e)) base t o.type e i z ht hi hz v n xs (by rw [hsize]; exact ho2) ⟨w.heap.size, 0, none⟩ 1 1 news (by omega) hnews h1 (by omega) h63 (by rw [hby]; exact hbytes)
  have ev : v2 = v' := by
    rw [hr] at hr2
    injection hr2 with e1 _
    exact e1.symm
  subst ev
  have hb : w.grownBy w' v.ownBlock := ⟨h3.os, h3.tape, h3.output, Nat.le_trans (by simp) h3.size, fun k hk hne => (h3.block k (by simp; omega) hne).trans (Below.heap_alloc w _ k hk)⟩
  unfold Oper.wp execOp
  simp only [ho, resolve, invoke, builtin, Sem.run_bind, Sem.run_pure, Result.andThen_ok, List.map_toArray, List.map_cons, List.map_nil, hs, hx, hr]
  refine h v2 w' h2 hb ?_
  rcases h4 with h4 | h4
  · exact .inl h4
  · right
    intro k hk
    rw [h4] at hk
    injection hk with hk
    subst hk
    simp
end Go.Proofs.YtikfncgdjnljiaaDoor.Hp15
