/-
  What a program that is being built in memory is behind each step: a row grows, the value of the grown row is stored where the last thing ahead of it names it. No function of a program is named here.
-/
import Derived.Test.YtikfncgdjnljiaaDoorTree
namespace Go.Proofs.YtikfncgdjnljiaaDoor.Tree
open Go.RowKit Api Hold Mem Syn

variable {w w' : World} {base : Nat} {r : Rec} {A B D R : List Rec} {a : Act} {p : Prog} {v' : Value} {news : List Value} {N : Nat}
theorem ap_front (h : Apart w base (A ++ r :: B)) : Apart w base (r :: (A ++ B)) := h.perm List.perm_middle
theorem ap_back (h : Apart w base (r :: (A ++ B))) : Apart w base (A ++ r :: B) := h.perm List.perm_middle.symm
theorem ap_same (h : Apart w base R) (hk : ∀ k, base ≤ k → k < w.heap.size → w'.heap[k]? = w.heap[k]?) : Apart w' base R := by
  refine ⟨fun x hx => ?_, h.2⟩
  obtain ⟨h1, h2⟩ := h.1 x hx
  refine ⟨h1, ?_⟩
  rcases h2 with h2 | ⟨g, cap, cur, e, hb, hg, hr⟩
  · exact .inl h2
  · exact .inr ⟨g, cap, cur, e, hb, (hk g hb (Array.getElem?_eq_some_iff.1 hg).1).trans hg, hr⟩
theorem ap_retire (t : TypeId) (s : Nat) (h : Apart w base (A ++ r :: (B ++ D))) : Apart w base (A ++ Rec.empty t s :: (B ++ r :: D)) := by
  have h1 := ap_front h
  have h2 : Apart w base (A ++ (B ++ r :: D)) := by
    rw [← List.append_assoc] at h1 ⊢
    exact ap_back h1
  exact ap_back (h2.empty t s)
/-- A row has grown by the cells of one thing. -/
structure Grew (w w' : World) (base : Nat) (r : Rec) (v' : Value) (news : List Value) : Prop where
  own : w'.ownsRow base r.t r.size v' (r.n + 1) (r.cs ++ news)
  grow : w.grownBy w' r.v.ownBlock
  loc : v'.ownBlock = r.v.ownBlock ∨ ∀ k, v'.ownBlock = some k → w.heap.size ≤ k
abbrev grew (r : Rec) (v' : Value) (news : List Value) : Rec := ⟨r.t, r.size, v', r.n + 1, r.cs ++ news⟩
theorem ap_grow (h : Apart w base (A ++ r :: B)) (g : Grew w w' base r v' news) : Apart w' base (A ++ grew r v' news :: B) := ap_back ((ap_front h).grow g.grow g.own g.loc)
abbrev put (r : Rec) (q : Nat) (u : Value) : Rec := { r with cs := r.cs.set q u }
theorem ap_store {g cap q : Nat} {u : Value} (h : Apart w base (A ++ r :: B)) (hv : r.v = .slice (some ⟨g, 0, none⟩) r.n cap) : Apart (w.setCell ⟨g, q, none⟩ u) base (A ++ put r q u :: B) := ap_back ((ap_front h).store hv)

/-- A program being built: its rows, what they hold; none has more than N things. -/
structure Build (w : World) (base : Nat) (a : Act) (D : List Rec) (p : Prog) (N : Nat) : Prop where
  ap : Apart w base (a.l ++ D)
  sh : Shape a D p
  few : ∀ r ∈ a.l, r.n ≤ N
theorem Build.same (h : Build w base a D p N) (hk : ∀ k, base ≤ k → k < w.heap.size → w'.heap[k]? = w.heap[k]?) : Build w' base a D p N := ⟨ap_same h.ap hk, h.sh, h.few⟩
theorem Build.more {N' : Nat} (h : Build w base a D p N) (hN : N ≤ N') : Build w base a D p N' := ⟨h.ap, h.sh, fun r hr => Nat.le_trans (h.few r hr) hN⟩
theorem Build.ssa (h : Build w base a D p N) (b : Bool) : Build w base a D { p with ssa := b } N := ⟨h.ap, h.sh.ssa b, h.few⟩
/-- a row of one's own goes into D. -/
theorem Build.own {F : Rec} (h : Build w base a D p N) (hF : F.on w base) (hne : ∀ x ∈ a.l ++ D, F.v.ownBlock = none ∨ F.v.ownBlock ≠ x.v.ownBlock) : Apart w base (a.l ++ (F :: D)) := by
  refine ap_back ⟨fun x hx => ?_, ?_⟩
  · rcases List.mem_cons.1 hx with rfl | hx
    · exact hF
    · exact h.ap.1 x hx
  · cases hv : F.v.ownBlock with
    | none => rw [List.filterMap_cons_none (f := fun r : Rec => r.v.ownBlock) (a := F) hv]; exact h.ap.2
    | some k =>
      rw [List.filterMap_cons_some (f := fun r : Rec => r.v.ownBlock) (a := F) hv, List.nodup_cons]
      refine ⟨fun hm => ?_, h.ap.2⟩
      obtain ⟨x, hx, hxk⟩ := List.mem_filterMap.1 hm
      rcases hne x hx with e | e
      · rw [hv] at e; cases e
      · exact e (by rw [hv, hxk])
theorem few_all {a : Act} (h : ∀ r ∈ a.l, r.n ≤ N) : a.C.n ≤ N ∧ a.F.n ≤ N ∧ a.G.n ≤ N ∧ a.E.n ≤ N ∧ a.U.n ≤ N ∧ a.R.n ≤ N ∧ a.V.n ≤ N ∧ a.B.n ≤ N ∧ a.H.n ≤ N ∧ a.K.n ≤ N ∧ a.M.n ≤ N ∧ a.O.n ≤ N := by
  simp only [Act.l, List.mem_cons, List.not_mem_nil, or_false, forall_eq_or_imp, forall_eq] at h
  exact h
theorem few_mk {a : Act} (h : a.C.n ≤ N ∧ a.F.n ≤ N ∧ a.G.n ≤ N ∧ a.E.n ≤ N ∧ a.U.n ≤ N ∧ a.R.n ≤ N ∧ a.V.n ≤ N ∧ a.B.n ≤ N ∧ a.H.n ≤ N ∧ a.K.n ≤ N ∧ a.M.n ≤ N ∧ a.O.n ≤ N) : ∀ r ∈ a.l, r.n ≤ N := by
  simp only [Act.l, List.mem_cons, List.not_mem_nil, or_false, forall_eq_or_imp, forall_eq]
  exact h
theorem few_sub (h : ∀ r ∈ a.l, r.n ≤ N) : a.C.n ≤ N + 1 ∧ a.F.n ≤ N + 1 ∧ a.G.n ≤ N + 1 ∧ a.E.n ≤ N + 1 ∧ a.U.n ≤ N + 1 ∧ a.R.n ≤ N + 1 ∧ a.V.n ≤ N + 1 ∧ a.B.n ≤ N + 1 ∧ a.H.n ≤ N + 1 ∧ a.K.n ≤ N + 1 ∧ a.M.n ≤ N + 1 ∧ a.O.n ≤ N + 1 := by
  obtain ⟨h1, h2, h3, h4, h5, h6, h7, h8, h9, h10, h11, h12⟩ := few_all h
  refine ⟨?_, ?_, ?_, ?_, ?_, ?_, ?_, ?_, ?_, ?_, ?_, ?_⟩ <;> omega
theorem sub_cons {F : Rec} : ∀ x ∈ D, x ∈ F :: D := fun _ h => List.mem_cons_of_mem _ h

/-! ### outside functions -/
theorem Build.global (h : Build w base a D p N) (x : Var) (g : Grew w w' base a.G v' (varC x)) (hN : N < 1073741824) :
    Build w' base { a with G := grew a.G v' (varC x) } D { p with globals := p.globals ++ [x] } (N + 1) := by
  have hf := few_sub h.few
  have hx := few_all h.few
  have hn := h.sh.g.2.2.1
  refine ⟨ap_grow (A := [a.C, a.F]) (B := [a.E, a.U, a.R, a.V, a.B, a.H, a.K, a.M, a.O] ++ D) h.ap g, ⟨h.sh.c, h.sh.g.push (by omega) rfl rfl v', h.sh.e, h.sh.u⟩, few_mk ?_⟩
  simp only
  omega
theorem Build.extern (h : Build w base a D p N) (x : Extern) (g : Grew w w' base a.E v' (externC x)) (hN : N < 1073741824) :
    Build w' base { a with E := grew a.E v' (externC x) } D { p with externs := p.externs ++ [x] } (N + 1) := by
  have hf := few_sub h.few
  have hx := few_all h.few
  have hn := h.sh.e.2.2.1
  refine ⟨ap_grow (A := [a.C, a.F, a.G]) (B := [a.U, a.R, a.V, a.B, a.H, a.K, a.M, a.O] ++ D) h.ap g, ⟨h.sh.c, h.sh.g, h.sh.e.push (by omega) rfl rfl v', h.sh.u⟩, few_mk ?_⟩
  simp only
  omega
theorem QFunc.mono {c : List Value} {x : Api.Func} {F : Rec} (h : QFunc a D c x) : QFunc a (F :: D) c x := by
  obtain ⟨e, h1, h2, h3⟩ := h
  refine ⟨e, h1, h2, h3.mono (fun _ _ h => IsBlock.mono sub_cons h) fun c x h => ?_⟩
  obtain ⟨c2, e, h1, h2, h3⟩ := h
  refine ⟨c2, e, h1.mono fun _ _ h => IsPhi.mono sub_cons h, h2.mono (fun _ _ h => IsInstr.mono sub_cons h) fun c x h => ?_, IsTerm.mono sub_cons h3⟩
  obtain ⟨u, e, h1, h2, h3⟩ := h
  exact ⟨u, e, h1.mono sub_cons fun _ _ h => h, h2.mono fun _ _ h => IsFrame.mono sub_cons h, h3.mono fun _ _ h => IsVirt.mono sub_cons h⟩
theorem Build.cls (h : Build w base a D p N) (x : Wd) (g : Grew w w' base a.C v' [str x, .slice none 0 0]) (hN : N < 1073741824) :
    Build w' base { a with C := grew a.C v' [str x, .slice none 0 0], F := .empty 40 2 } (a.F :: D) { p with classes := p.classes ++ [⟨x, []⟩] } (N + 1) := by
  have hf := few_sub h.few
  have hx := few_all h.few
  have hn := h.sh.c.2.2.1
  have h1 := ap_grow (A := []) (B := [a.F, a.G, a.E, a.U, a.R, a.V, a.B, a.H, a.K, a.M, a.O] ++ D) h.ap g
  have h2 := ap_retire (A := [grew a.C v' [str x, .slice none 0 0]]) (r := a.F) (B := [a.G, a.E, a.U, a.R, a.V, a.B, a.H, a.K, a.M, a.O]) (D := D) 40 2 h1
  refine ⟨h2, ⟨h.sh.c.push (by omega) (fun _ _ h => IsClass.mono sub_cons h) (fun _ _ h => h.done (by simp)) rfl ⟨rfl, .none _ _ _⟩ v', h.sh.g, h.sh.e, h.sh.u.mono (fun _ _ h => IsFunc.mono sub_cons h) fun _ _ h => h.mono⟩, few_mk ?_⟩
  simp only [Rec.empty]
  omega
theorem Build.field {g0 cap : Nat} (h : Build w base a D p N) (x : Var) (hne : p.classes ≠ []) (g : Grew w w' base a.F v' (varC x)) (hv : a.C.v = .slice (some ⟨g0, 0, none⟩) a.C.n cap) (hN : N < 1073741824) :
    Build (w'.setCell ⟨g0, (p.classes.length - 1) * 2 + 1, none⟩ v') base { a with F := grew a.F v' (varC x), C := put a.C ((p.classes.length - 1) * 2 + 1) v' } D { p with classes := Syn.last (fun c => { c with fields := c.fields ++ [x] }) p.classes } (N + 1) := by
  have hf := few_sub h.few
  have hx := few_all h.few
  have h1 := ap_grow (A := [a.C]) (B := [a.G, a.E, a.U, a.R, a.V, a.B, a.H, a.K, a.M, a.O] ++ D) h.ap g
  have h2 := ap_store (A := []) (r := a.C) (q := (p.classes.length - 1) * 2 + 1) (u := v') h1 hv
  refine ⟨h2, ⟨h.sh.c.alter hne fun c y _ hq => ?_, h.sh.g, h.sh.e, h.sh.u⟩, few_mk ?_⟩
  · obtain ⟨e, hr⟩ := hq
    have hn := hr.2.2.1
    exact ⟨by rw [e]; rfl, hr.push (by omega) rfl rfl v'⟩
  · simp only
    omega
theorem Build.fn (h : Build w base a D p N) (x y : Wd) (g : Grew w w' base a.U v' [str x, str y, .slice none 0 0, .slice none 0 0, .slice none 0 0]) (hN : N < 1073741824) :
    Build w' base { a with U := grew a.U v' [str x, str y, .slice none 0 0, .slice none 0 0, .slice none 0 0], R := .empty 40 2, V := .empty 40 2, B := .empty 94 9, H := .empty 123 2, K := .empty 59 6, M := .empty 153 4, O := .empty 157 2 } (a.O :: a.M :: a.K :: a.H :: a.B :: a.V :: a.R :: D) { p with funcs := p.funcs ++ [⟨x, y, [], [], []⟩] } (N + 1) := by
  have hf := few_sub h.few
  have hx := few_all h.few
  have hn := h.sh.u.2.2.1
  have h1 := ap_grow (A := [a.C, a.F, a.G, a.E]) (B := [a.R, a.V, a.B, a.H, a.K, a.M, a.O] ++ D) h.ap g
  have h2 := ap_retire (A := [a.C, a.F, a.G, a.E, grew a.U v' [str x, str y, .slice none 0 0, .slice none 0 0, .slice none 0 0]]) (r := a.R) (B := [a.V, a.B, a.H, a.K, a.M, a.O]) (D := D) 40 2 h1
  have h3 := ap_retire (A := [a.C, a.F, a.G, a.E, grew a.U v' [str x, str y, .slice none 0 0, .slice none 0 0, .slice none 0 0], .empty 40 2]) (r := a.V) (B := [a.B, a.H, a.K, a.M, a.O]) (D := a.R :: D) 40 2 h2
  have h4 := ap_retire (A := [a.C, a.F, a.G, a.E, grew a.U v' [str x, str y, .slice none 0 0, .slice none 0 0, .slice none 0 0], .empty 40 2, .empty 40 2]) (r := a.B) (B := [a.H, a.K, a.M, a.O]) (D := a.V :: a.R :: D) 94 9 h3
  have h5 := ap_retire (A := [a.C, a.F, a.G, a.E, grew a.U v' [str x, str y, .slice none 0 0, .slice none 0 0, .slice none 0 0], .empty 40 2, .empty 40 2, .empty 94 9]) (r := a.H) (B := [a.K, a.M, a.O]) (D := a.B :: a.V :: a.R :: D) 123 2 h4
  have h6 := ap_retire (A := [a.C, a.F, a.G, a.E, grew a.U v' [str x, str y, .slice none 0 0, .slice none 0 0, .slice none 0 0], .empty 40 2, .empty 40 2, .empty 94 9, .empty 123 2]) (r := a.K) (B := [a.M, a.O]) (D := a.H :: a.B :: a.V :: a.R :: D) 59 6 h5
  have h7 := ap_retire (A := [a.C, a.F, a.G, a.E, grew a.U v' [str x, str y, .slice none 0 0, .slice none 0 0, .slice none 0 0], .empty 40 2, .empty 40 2, .empty 94 9, .empty 123 2, .empty 59 6]) (r := a.M) (B := [a.O]) (D := a.K :: a.H :: a.B :: a.V :: a.R :: D) 153 4 h6
  have h8 := ap_retire (A := [a.C, a.F, a.G, a.E, grew a.U v' [str x, str y, .slice none 0 0, .slice none 0 0, .slice none 0 0], .empty 40 2, .empty 40 2, .empty 94 9, .empty 123 2, .empty 59 6, .empty 153 4]) (r := a.O) (B := []) (D := a.M :: a.K :: a.H :: a.B :: a.V :: a.R :: D) 157 2 h7
  have hD : ∀ F ∈ D, F ∈ a.O :: a.M :: a.K :: a.H :: a.B :: a.V :: a.R :: D := fun F hF => by simp [hF]
  refine ⟨h8, ⟨h.sh.c.mono (fun _ _ h => IsClass.mono hD h) fun _ _ h => h, h.sh.g, h.sh.e, h.sh.u.push (by omega) (fun _ _ h => IsFunc.mono hD h) (fun _ _ h => h.done hD (by simp) (by simp) (by simp) (by simp) (by simp) (by simp) (by simp)) rfl ⟨rfl, .none _ _ _, .none _ _ _, .none _ _ _ _⟩ v'⟩, few_mk ?_⟩
  simp only [Rec.empty]
  omega

/-! ### a function's head -/
theorem Build.param {g0 cap : Nat} (h : Build w base a D p N) (x : Var) (hne : p.funcs ≠ []) (g : Grew w w' base a.R v' (varC x)) (hv : a.U.v = .slice (some ⟨g0, 0, none⟩) a.U.n cap) (hN : N < 1073741824) :
    Build (w'.setCell ⟨g0, (p.funcs.length - 1) * 5 + 2, none⟩ v') base { a with R := grew a.R v' (varC x), U := put a.U ((p.funcs.length - 1) * 5 + 2) v' } D { p with funcs := Syn.last (fun f => { f with params := f.params ++ [x] }) p.funcs } (N + 1) := by
  have hf := few_sub h.few
  have hx := few_all h.few
  have h1 := ap_grow (A := [a.C, a.F, a.G, a.E, a.U]) (B := [a.V, a.B, a.H, a.K, a.M, a.O] ++ D) h.ap g
  have h2 := ap_store (A := [a.C, a.F, a.G, a.E]) (r := a.U) (q := (p.funcs.length - 1) * 5 + 2) (u := v') h1 hv
  refine ⟨h2, ⟨h.sh.c, h.sh.g, h.sh.e, h.sh.u.alter hne fun c y _ hq => ?_⟩, few_mk ?_⟩
  · obtain ⟨e, q1, q2, q3⟩ := hq
    have hn := q1.2.2.1
    exact ⟨by rw [e]; rfl, q1.push (by omega) rfl rfl v', q2, q3⟩
  · simp only
    omega
theorem Build.var {g0 cap : Nat} (h : Build w base a D p N) (x : Var) (hne : p.funcs ≠ []) (g : Grew w w' base a.V v' (varC x)) (hv : a.U.v = .slice (some ⟨g0, 0, none⟩) a.U.n cap) (hN : N < 1073741824) :
    Build (w'.setCell ⟨g0, (p.funcs.length - 1) * 5 + 3, none⟩ v') base { a with V := grew a.V v' (varC x), U := put a.U ((p.funcs.length - 1) * 5 + 3) v' } D { p with funcs := Syn.last (fun f => { f with vars := f.vars ++ [x] }) p.funcs } (N + 1) := by
  have hf := few_sub h.few
  have hx := few_all h.few
  have h1 := ap_grow (A := [a.C, a.F, a.G, a.E, a.U, a.R]) (B := [a.B, a.H, a.K, a.M, a.O] ++ D) h.ap g
  have h2 := ap_store (A := [a.C, a.F, a.G, a.E]) (r := a.U) (q := (p.funcs.length - 1) * 5 + 3) (u := v') h1 hv
  refine ⟨h2, ⟨h.sh.c, h.sh.g, h.sh.e, h.sh.u.alter hne fun c y _ hq => ?_⟩, few_mk ?_⟩
  · obtain ⟨e, q1, q2, q3⟩ := hq
    have hn := q2.2.2.1
    exact ⟨by rw [e]; rfl, q1, q2.push (by omega) rfl rfl v', q3⟩
  · simp only
    omega
abbrev nilTerm : List Value := [i64 0, i64 0, str [], i64 0, .slice none 0 0, i64 0]
theorem Build.block {g0 cap : Nat} (h : Build w base a D p N) (x : Wd) (hne : p.funcs ≠ []) (g : Grew w w' base a.B v' (str x :: .slice none 0 0 :: .slice none 0 0 :: nilTerm)) (hv : a.U.v = .slice (some ⟨g0, 0, none⟩) a.U.n cap) (hN : N < 1073741824) :
    Build (w'.setCell ⟨g0, (p.funcs.length - 1) * 5 + 4, none⟩ v') base { a with B := grew a.B v' (str x :: .slice none 0 0 :: .slice none 0 0 :: nilTerm), U := put a.U ((p.funcs.length - 1) * 5 + 4) v', H := .empty 123 2, K := .empty 59 6, M := .empty 153 4, O := .empty 157 2 } (a.O :: a.M :: a.K :: a.H :: D) { p with funcs := Syn.last (fun f => { f with blocks := f.blocks ++ [⟨x, [], [], termZ⟩] }) p.funcs } (N + 1) := by
  have hf := few_sub h.few
  have hx := few_all h.few
  have h1 := ap_grow (A := [a.C, a.F, a.G, a.E, a.U, a.R, a.V]) (B := [a.H, a.K, a.M, a.O] ++ D) h.ap g
  have h2 := ap_store (A := [a.C, a.F, a.G, a.E]) (r := a.U) (q := (p.funcs.length - 1) * 5 + 4) (u := v') h1 hv
  have h5 := ap_retire (A := [a.C, a.F, a.G, a.E, put a.U ((p.funcs.length - 1) * 5 + 4) v', a.R, a.V, grew a.B v' (str x :: .slice none 0 0 :: .slice none 0 0 :: nilTerm)]) (r := a.H) (B := [a.K, a.M, a.O]) (D := D) 123 2 h2
  have h6 := ap_retire (A := [a.C, a.F, a.G, a.E, put a.U ((p.funcs.length - 1) * 5 + 4) v', a.R, a.V, grew a.B v' (str x :: .slice none 0 0 :: .slice none 0 0 :: nilTerm), .empty 123 2]) (r := a.K) (B := [a.M, a.O]) (D := a.H :: D) 59 6 h5
  have h7 := ap_retire (A := [a.C, a.F, a.G, a.E, put a.U ((p.funcs.length - 1) * 5 + 4) v', a.R, a.V, grew a.B v' (str x :: .slice none 0 0 :: .slice none 0 0 :: nilTerm), .empty 123 2, .empty 59 6]) (r := a.M) (B := [a.O]) (D := a.K :: a.H :: D) 153 4 h6
  have h8 := ap_retire (A := [a.C, a.F, a.G, a.E, put a.U ((p.funcs.length - 1) * 5 + 4) v', a.R, a.V, grew a.B v' (str x :: .slice none 0 0 :: .slice none 0 0 :: nilTerm), .empty 123 2, .empty 59 6, .empty 153 4]) (r := a.O) (B := []) (D := a.M :: a.K :: a.H :: D) 157 2 h7
  have hD : ∀ F ∈ D, F ∈ a.O :: a.M :: a.K :: a.H :: D := fun F hF => by simp [hF]
  refine ⟨h8, ⟨h.sh.c.mono (fun _ _ h => IsClass.mono hD h) fun _ _ h => h, h.sh.g, h.sh.e, (h.sh.u.mono (fun _ _ h => IsFunc.mono hD h) fun _ _ h => h).alter hne fun c y _ hq => ?_⟩, few_mk ?_⟩
  · obtain ⟨e, q1, q2, q3⟩ := hq
    have hn := q3.2.2.1
    exact ⟨by rw [e]; rfl, q1, q2, q3.push (by omega) (fun _ _ h => IsBlock.mono hD h) (fun _ _ h => h.done hD (by simp) (by simp) (by simp) (by simp)) rfl ⟨_, rfl, .none _ _ _, .none _ _ _ _, ⟨_, rfl, .nil _ _ _ _⟩⟩ v'⟩
  · simp only [Rec.empty]
    omega

/-! ### inside a block: f is what happens to the last block -/
theorem Build.inBlock {a2 : Act} {D2 : List Rec} {N2 : Nat} {f : Api.Block → Api.Block} (h : Build w base a D p N) (hne : p.funcs ≠ []) (hC : a2.C = a.C) (hF : a2.F = a.F) (hG : a2.G = a.G) (hE : a2.E = a.E) (hU : a2.U = a.U) (hR : a2.R = a.R) (hV : a2.V = a.V) (hBv : a2.B.v = a.B.v)
    (hap : Apart w' base (a2.l ++ D2)) (hD : ∀ F ∈ D, F ∈ D2) (hfew : ∀ r ∈ a2.l, r.n ≤ N2)
    (hB : ∀ l, SpineRow 94 9 (IsBlock D) (QBlock a D) a.B l → l = (p.funcs.getLast?.getD funcZ).blocks → SpineRow 94 9 (IsBlock D2) (QBlock a2 D2) a2.B (Syn.last f l)) :
    Build w' base a2 D2 { p with funcs := Syn.last (fun x => { x with blocks := Syn.last f x.blocks }) p.funcs } N2 := by
  refine ⟨hap, ⟨?_, by rw [hG]; exact h.sh.g, by rw [hE]; exact h.sh.e, ?_⟩, hfew⟩
  · rw [hC]
    refine h.sh.c.mono (fun _ _ h => IsClass.mono hD h) fun c x h => ?_
    unfold QClass at h ⊢
    rw [hF]; exact h
  · rw [hU]
    obtain ⟨h1, h2, h3, h4, h5⟩ := h.sh.u
    refine ⟨h1, h2, by rw [last_length]; exact h3, by rw [last_length]; exact h4, ?_⟩
    rcases h5 with ⟨h5, _⟩ | ⟨init, x, cs0, c, e0, e, h6, h7, h8⟩
    · exact absurd h5 hne
    · refine .inr ⟨init, { x with blocks := Syn.last f x.blocks }, cs0, c, by rw [e0]; exact last_snoc _ init x, e, h6.mono fun _ _ h => IsFunc.mono hD h, h7, ?_⟩
      obtain ⟨e, q1, q2, q3⟩ := h8
      refine ⟨by rw [hR, hV, hBv]; exact e, by rw [hR]; exact q1, by rw [hV]; exact q2, hB _ q3 ?_⟩
      rw [e0]; simp
end Go.Proofs.YtikfncgdjnljiaaDoor.Tree
