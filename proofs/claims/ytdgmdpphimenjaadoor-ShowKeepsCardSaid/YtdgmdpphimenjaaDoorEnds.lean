/-
  Package syntax: a block's end: end, jump, branch, ret, trap.
-/
import Derived.Test.YtdgmdpphimenjaaDoorLast
import Derived.Test.YtdgmdpphimenjaaDoorKeep2
namespace Go.Proofs.YtdgmdpphimenjaaDoor.Rd5
open Go.RowKit Api Hold Mem Syn WordM Tree

variable {w w' w1 w2 : World} {lo hi rb base N : Nat} {rc : RC} {v : Value} {l ws : List Wd} {row : Option Nat} {a : Tree.Act} {D D2 : List Rec} {p : Prog}
theorem own6 {g : Nat} {t : TypeId} {u0 u1 u2 u3 u4 u5 : Value} (o : Own w g t [u0, u1, u2, u3, u4, u5]) : w.cell? ⟨g, 0, none⟩ = some u0 ∧ w.cell? ⟨g, 1, none⟩ = some u1 ∧ w.cell? ⟨g, 2, none⟩ = some u2 ∧ w.cell? ⟨g, 3, none⟩ = some u3 ∧ w.cell? ⟨g, 4, none⟩ = some u4 ∧ w.cell? ⟨g, 5, none⟩ = some u5 :=
  ⟨o.cell 0, o.cell 1, o.cell 2, o.cell 3, o.cell 4, o.cell 5⟩
theorem node_form {α : Type} {t : TypeId} {size : Nat} {P : List Value → α → Prop} {v : Value} {xs : List α} (h : Tree.Node D t size P v xs) (hA : ∀ F ∈ D, F.on w base) : ∃ A n c, v = .slice A n c := by
  rcases h with ⟨rfl, _⟩ | ⟨F, hF, rfl, _⟩
  · exact ⟨_, _, _, rfl⟩
  · obtain ⟨A, c, e⟩ := (hA F hF).form
    exact ⟨A, _, c, e⟩
def finP (p : Prog) (t : Api.Term) : Prog := { p with funcs := Syn.last (fun x => { x with blocks := Syn.last (fun b => { b with fin := t }) x.blocks }) p.funcs }
def endD (p : Prog) (pl lg : Int) (ov : Bool) (t : Api.Term) (ws : List Wd) : Out := if stB pl 480 = false then none else some (finP p t, 512, lg, ov, ws)

theorem add_row {F : Rec} (h : Build w base a D p N) (hw : ∀ k, base ≤ k → k < w.heap.size → w'.heap[k]? = w.heap[k]?) (hF : F.on w' base) (hk : ∀ k, F.v.ownBlock = some k → w.heap.size ≤ k) : Apart w' base (a.l ++ (F :: D)) :=
  (h.same hw).own hF fun x hx => by
    cases hv : F.v.ownBlock with
    | none => exact .inl rfl
    | some k =>
      right
      intro e
      have h1 := hk k hv
      have h2 := ((h.ap.1 x hx).lt e.symm).2
      omega
abbrev FitB (p : Prog) (pl : Int) : Prop := stB pl 480 = true → p.funcs ≠ [] ∧ (p.funcs.getLast?.getD funcZ).blocks ≠ []

def jumpD (p : Prog) (pl lg : Int) (ov : Bool) (ws : List Wd) : Out := match takeName ws with | none => none | some (x, l) => endD p pl lg ov ⟨1, argZ, [x], 0⟩ l
def retD (p : Prog) (pl lg : Int) (ov : Bool) (ws : List Wd) : Out := match takeArg ws with | none => none | some (x, l) => endD p pl lg ov ⟨3, x, [], 0⟩ l
def trapD (p : Prog) (pl lg : Int) (ov : Bool) (ws : List Wd) : Out := match takeNum ws with | none => none | some (n, l) => endD p pl lg ov ⟨4, argZ, [], n⟩ l
def branchD (p : Prog) (pl lg : Int) (ov : Bool) (ws : List Wd) : Out := match takeArg ws with
  | none => none
  | some (x, l) => match takeName l with
    | none => none
    | some (y, l) => match takeName l with
      | none => none
      | some (z, l) => endD p pl lg ov ⟨2, x, [y, z], 0⟩ l
theorem jumpD_none {pl lg : Int} {ov : Bool} (h : takeName ws = none) : jumpD p pl lg ov ws = none := by unfold jumpD; rw [h]
theorem retD_none {pl lg : Int} {ov : Bool} (h : takeArg ws = none) : retD p pl lg ov ws = none := by unfold retD; rw [h]
theorem trapD_none {pl lg : Int} {ov : Bool} (h : takeNum ws = none) : trapD p pl lg ov ws = none := by unfold trapD; rw [h]
theorem branchD_none {pl lg : Int} {ov : Bool} (h : takeArg ws = none) : branchD p pl lg ov ws = none := by unfold branchD; rw [h]
theorem nil_term (k : Int) (x : Arg) (n : Int) : IsTerm D [i64 k, i64 x.kind, str x.s, i64 x.n, .slice none 0 0, i64 n] ⟨k, x, [], n⟩ := ⟨_, rfl, .inl ⟨rfl, rfl⟩⟩

theorem flat_one {α β : Type} (f : α → β) (xs : List α) : xs.flatMap (fun x => [f x]) = xs.map f := by
  induction xs with
  | nil => rfl
  | cons a l ih => rw [List.flatMap_cons, ih]; rfl
/-- a row of texts just laid, among D. -/
theorem texts_row (h : Build w base a D p N) (hb : base ≤ w.heap.size) (xs : List Wd) (hx : xs.length ≤ 1000) : Apart (w.alloc (.cells (xs.map str).toArray 9)) base (a.l ++ ((⟨9, 1, .slice (some ⟨w.heap.size, 0, none⟩) xs.length xs.length, xs.length, xs.map str⟩ : Rec) :: D)) ∧
    ∀ k x n, IsTerm ((⟨9, 1, .slice (some ⟨w.heap.size, 0, none⟩) xs.length xs.length, xs.length, xs.map str⟩ : Rec) :: D) [i64 k, i64 x.kind, str x.s, i64 x.n, .slice (some ⟨w.heap.size, 0, none⟩) xs.length xs.length, i64 n] ⟨k, x, xs, n⟩ := by
  have hF : Rec.on (w.alloc (.cells (xs.map str).toArray 9)) base ⟨9, 1, .slice (some ⟨w.heap.size, 0, none⟩) xs.length xs.length, xs.length, xs.map str⟩ := by
    have ho : Own (w.alloc (.cells (xs.map str).toArray 9)) w.heap.size 9 (xs.map str) := Own.made w 9 (xs.map str)
    exact ho.row hb (Nat.le_refl _) (by unfold maxLen; omega) (by simp) (by rw [List.take_of_length_le (by simp)])
  refine ⟨add_row h (fun k _ hk => heap_alloc_old w _ hk) hF (fun k hk => by simp [Value.ownBlock] at hk; omega), fun k x n => ⟨_, rfl, .inr ⟨_, List.mem_cons_self, rfl, rfl, rfl, rfl, by show xs.length ≤ _; omega, ?_⟩⟩⟩
  have := Cells.flat (size := 1) (f := fun x : Wd => [str x]) (fun _ => rfl) xs
  rw [flat_one] at this
  exact this
theorem branchD_2 {pl lg : Int} {ov : Bool} {x : Arg} (h : takeArg ws = some (x, l)) (h2 : takeName l = none) : branchD p pl lg ov ws = none := by unfold branchD; rw [h]; simp only; rw [h2]
theorem branchD_3 {pl lg : Int} {ov : Bool} {x : Arg} {y : Wd} {l2 : List Wd} (h : takeArg ws = some (x, l)) (h2 : takeName l = some (y, l2)) (h3 : takeName l2 = none) : branchD p pl lg ov ws = none := by unfold branchD; rw [h]; simp only; rw [h2]; simp only; rw [h3]
theorem branchD_4 {pl lg : Int} {ov : Bool} {x : Arg} {y z : Wd} {l2 l3 : List Wd} (h : takeArg ws = some (x, l)) (h2 : takeName l = some (y, l2)) (h3 : takeName l2 = some (z, l3)) : branchD p pl lg ov ws = endD p pl lg ov ⟨2, x, [y, z], 0⟩ l3 := by unfold branchD; rw [h]; simp only; rw [h2]; simp only; rw [h3]
abbrev oA (ak an : Int) (as_ : Wd) : Obj := .cells #[i64 ak, str as_, i64 an] 44
end Go.Proofs.YtdgmdpphimenjaaDoor.Rd5
