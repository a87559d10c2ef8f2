/-
  What a program that is being built in memory is behind a line inside a block: its end, a phi, an instruction, a frame, an object. No function of a program is named here.
-/
import Derived.Test.YtdgmdpphimenjaaDoorKeep
namespace Go.Proofs.YtdgmdpphimenjaaDoor.Tree
open Go.RowKit Api Hold Mem Syn

variable {w w' : World} {base : Nat} {r : Rec} {A B D R : List Rec} {a : Act} {p : Prog} {v' : Value} {news : List Value} {N : Nat}

/-! ### a block's end -/
theorem fold_set {cs0 c : List Value} (us : List (Nat × Value)) : us.foldl (fun cs q => cs.set (cs0.length + q.1) q.2) (cs0 ++ c) = cs0 ++ us.foldl (fun c q => c.set q.1 q.2) c := by
  induction us generalizing c with
  | nil => rfl
  | cons q us ih =>
    rw [List.foldl_cons, List.foldl_cons, List.set_append_right _ _ (by omega), Nat.add_sub_cancel_left]
    exact ih
theorem fold_len {c : List Value} (us : List (Nat × Value)) : (us.foldl (fun c q => c.set q.1 q.2) c).length = c.length := by
  induction us generalizing c with
  | nil => rfl
  | cons q us ih => rw [List.foldl_cons, ih, List.length_set]
/-- cells of the last one are written. -/
theorem SpineRow.alters {α : Type} {t : TypeId} {size : Nat} {P Q Q' : List Value → α → Prop} {F : Rec} {xs : List α} {f : α → α} (h : SpineRow t size P Q F xs) (hne : xs ≠ []) (us : List (Nat × Value)) (hq : ∀ c x, Q c x → Q' (us.foldl (fun c q => c.set q.1 q.2) c) (f x)) :
    SpineRow t size P Q' { F with cs := us.foldl (fun cs q => cs.set ((xs.length - 1) * size + q.1) q.2) F.cs } (Syn.last f xs) := by
  obtain ⟨h1, h2, h3, h4, h5⟩ := h
  refine ⟨h1, h2, by rw [last_length]; exact h3, by rw [last_length]; exact h4, ?_⟩
  rcases h5 with ⟨h5, _⟩ | ⟨init, x, cs0, c, rfl, e, h6, h7, h8⟩
  · exact absurd h5 hne
  · refine .inr ⟨init, f x, cs0, us.foldl (fun c q => c.set q.1 q.2) c, last_snoc f init x, ?_, h6, by rw [fold_len]; exact h7, hq _ _ h8⟩
    have h9 := h6.length
    show us.foldl _ F.cs = _
    rw [e, List.length_append, List.length_singleton, Nat.add_sub_cancel, ← h9]
    exact fold_set us
theorem Build.ends {g0 cap : Nat} {D2 : List Rec} {t : Api.Term} {u : Value} (h : Build w base a D p N) (hne : p.funcs ≠ []) (hnb : (p.funcs.getLast?.getD funcZ).blocks ≠ []) (hap : Apart w base (a.l ++ D2)) (hD : ∀ F ∈ D, F ∈ D2) (hv : a.B.v = .slice (some ⟨g0, 0, none⟩) a.B.n cap)
    (ht : IsTerm D2 [i64 t.kind, i64 t.a.kind, str t.a.s, i64 t.a.n, u, i64 t.n] t) {q : Nat} (hq : ((p.funcs.getLast?.getD funcZ).blocks.length - 1) * 9 = q) :
    Build ((((((w.setCell ⟨g0, q + 3, none⟩ (i64 t.kind)).setCell ⟨g0, q + 3 + 1, none⟩ (i64 t.a.kind)).setCell ⟨g0, q + 3 + 2, none⟩ (str t.a.s)).setCell ⟨g0, q + 3 + 3, none⟩ (i64 t.a.n)).setCell ⟨g0, q + 3 + 4, none⟩ u).setCell ⟨g0, q + 3 + 5, none⟩ (i64 t.n)) base
      { a with B := { a.B with cs := [(3, i64 t.kind), (4, i64 t.a.kind), (5, str t.a.s), (6, i64 t.a.n), (7, u), (8, i64 t.n)].foldl (fun cs x => cs.set (q + x.1) x.2) a.B.cs } } D2 { p with funcs := Syn.last (fun x => { x with blocks := Syn.last (fun b => { b with fin := t }) x.blocks }) p.funcs } N := by
  have hx := few_all h.few
  subst hq
  refine h.inBlock hne rfl rfl rfl rfl rfl rfl rfl rfl ?_ hD (few_mk hx) fun l hl e => ?_
  · have s1 := ap_store (A := [a.C, a.F, a.G, a.E, a.U, a.R, a.V]) (B := [a.H, a.K, a.M, a.O] ++ D2) (r := a.B) (q := ((p.funcs.getLast?.getD funcZ).blocks.length - 1) * 9 + 3) (u := i64 t.kind) hap hv
    have s2 := ap_store (A := [a.C, a.F, a.G, a.E, a.U, a.R, a.V]) (B := [a.H, a.K, a.M, a.O] ++ D2) (q := ((p.funcs.getLast?.getD funcZ).blocks.length - 1) * 9 + 3 + 1) (u := i64 t.a.kind) s1 hv
    have s3 := ap_store (A := [a.C, a.F, a.G, a.E, a.U, a.R, a.V]) (B := [a.H, a.K, a.M, a.O] ++ D2) (q := ((p.funcs.getLast?.getD funcZ).blocks.length - 1) * 9 + 3 + 2) (u := str t.a.s) s2 hv
    have s4 := ap_store (A := [a.C, a.F, a.G, a.E, a.U, a.R, a.V]) (B := [a.H, a.K, a.M, a.O] ++ D2) (q := ((p.funcs.getLast?.getD funcZ).blocks.length - 1) * 9 + 3 + 3) (u := i64 t.a.n) s3 hv
    have s5 := ap_store (A := [a.C, a.F, a.G, a.E, a.U, a.R, a.V]) (B := [a.H, a.K, a.M, a.O] ++ D2) (q := ((p.funcs.getLast?.getD funcZ).blocks.length - 1) * 9 + 3 + 4) (u := u) s4 hv
    exact ap_store (A := [a.C, a.F, a.G, a.E, a.U, a.R, a.V]) (B := [a.H, a.K, a.M, a.O] ++ D2) (q := ((p.funcs.getLast?.getD funcZ).blocks.length - 1) * 9 + 3 + 5) (u := i64 t.n) s5 hv
  · subst e
    refine (hl.mono (fun _ _ h => IsBlock.mono hD h) fun _ _ h => h).alters hnb [(3, i64 t.kind), (4, i64 t.a.kind), (5, str t.a.s), (6, i64 t.a.n), (7, u), (8, i64 t.n)] fun c x hqb => ?_
    obtain ⟨c2, e, h1, h2, h3⟩ := hqb
    obtain ⟨u0, e3, _⟩ := h3
    refine ⟨[i64 t.kind, i64 t.a.kind, str t.a.s, i64 t.a.n, u, i64 t.n], by rw [e, e3]; rfl, h1.mono fun _ _ h => IsPhi.mono hD h, h2.mono (fun _ _ h => IsInstr.mono hD h) fun c x hi => ?_, ht⟩
    obtain ⟨u, e, k1, k2, k3⟩ := hi
    exact ⟨u, e, k1.mono hD fun _ _ h => h, k2.mono fun _ _ h => IsFrame.mono hD h, k3.mono fun _ _ h => IsVirt.mono hD h⟩
end Go.Proofs.YtdgmdpphimenjaaDoor.Tree
