/-
  Package syntax: Parse.
-/
import Derived.Test.YtikfncgdjnljiaaDoorGrB
import Derived.Test.YtikfncgdjnljiaaDoorPlainN
import Derived.Test.YtikfncgdjnljiaaDoorCallsL
namespace Go.Proofs.YtikfncgdjnljiaaDoor.Rd5
open Go.RowKit Api Hold Mem Syn WordM Tree LinesM

variable {w w' w1 w2 : World} {lo hi rb base N : Nat} {p : Prog}
/-- A text: the program; or a line's number and the error. -/
def textE (s : List UInt8) : Except (Nat × Int) Prog := if (splitV s).2.2 ≠ 0 then .error ((splitV s).2.1, ((splitV s).2.2 : Int)) else parseE (splitV s).1
def zeroP : List Value := [.bool false, .slice none 0 0, .slice none 0 0, .slice none 0 0, .slice none 0 0]
/-- What Parse leaves. -/
def ParsP (w : World) (r : Except (Nat × Int) Prog) (e : Ending) (w' : World) : Prop :=
  Below w.heap.size w w' ∧ match r with
  | .error x => e = .returned (.tuple #[.agg zeroP.toArray, i64 (x.1 : Int), i64 x.2])
  | .ok p => ∃ cs, e = .returned (.tuple #[.agg cs.toArray, i64 0, i64 0]) ∧ Api.ProgC w.heap.size w'.heap.size w' cs p
theorem add_at (g j : Nat) : (⟨g, 0, none⟩ : Addr).add j = ⟨g, 0 + j, none⟩ := by unfold Addr.add; split <;> simp_all
theorem res_cells {b : Nat} {t : TypeId} {a0 a1 a2 a3 a4 : Value} (h : Own w b t [a0, a1, a2, a3, a4]) :
    (w.cell? ⟨b, 0, none⟩ = some a0 ∧ w.cell? ⟨b, 1, none⟩ = some a1 ∧ w.cell? ⟨b, 2, none⟩ = some a2 ∧ w.cell? ⟨b, 3, none⟩ = some a3 ∧ w.cell? ⟨b, 4, none⟩ = some a4) ∧
    (w.frozen? ⟨b, 0, none⟩ = false ∧ w.frozen? ⟨b, 1, none⟩ = false ∧ w.frozen? ⟨b, 2, none⟩ = false ∧ w.frozen? ⟨b, 3, none⟩ = false ∧ w.frozen? ⟨b, 4, none⟩ = false) :=
  ⟨⟨h.cell 0, h.cell 1, h.cell 2, h.cell 3, h.cell 4⟩, ⟨h.thaw 0, h.thaw 1, h.thaw 2, h.thaw 3, h.thaw 4⟩⟩
theorem zero_own (w : World) (t : TypeId) (hb : Below (w.alloc (.cells #[.bool false, .slice none 0 0, .slice none 0 0, .slice none 0 0, .slice none 0 0] t)).heap.size (w.alloc (.cells #[.bool false, .slice none 0 0, .slice none 0 0, .slice none 0 0, .slice none 0 0] t)) w1) : Own w1 w.heap.size t [.bool false, .slice none 0 0, .slice none 0 0, .slice none 0 0, .slice none 0 0] :=
  (Own.made w t [.bool false, .slice none 0 0, .slice none 0 0, .slice none 0 0, .slice none 0 0]).below hb (by simp)
theorem results_cell_tmp2 {fn : Func} {p u x : Tmp} {ty : TypeId} (h : fn.results = #[.cell p ty, .tmp u, .tmp x]) (tmps : Array Value) (P : Program) (w : World) :
    (results fn tmps).run P w =
      ((asAddr (tmps.getD p undef)).run P w).andThen fun a w₁ => ((loadVar ty a).run P w₁).andThen fun v w₂ => .ok (.tuple #[v, tmps.getD u undef, tmps.getD x undef]) w₂ := by
  simp only [results, h]
  simp [Sem.run_bind, Result.andThen]
theorem five_below {b : Nat} {v0 v1 v2 v3 v4 : Value} (h : Below b w w1) : Below b w (((((w1.setCell ⟨b, 0, none⟩ v0).setCell ⟨b, 1, none⟩ v1).setCell ⟨b, 2, none⟩ v2).setCell ⟨b, 3, none⟩ v3).setCell ⟨b, 4, none⟩ v4) :=
  ((((h.setCell (p := ⟨b, 0, none⟩) (Nat.le_refl _) _).setCell (p := ⟨b, 1, none⟩) (Nat.le_refl _) _).setCell (p := ⟨b, 2, none⟩) (Nat.le_refl _) _).setCell (p := ⟨b, 3, none⟩) (Nat.le_refl _) _).setCell (p := ⟨b, 4, none⟩) (Nat.le_refl _) _
theorem five_size {b : Nat} {v0 v1 v2 v3 v4 : Value} : (((((w1.setCell ⟨b, 0, none⟩ v0).setCell ⟨b, 1, none⟩ v1).setCell ⟨b, 2, none⟩ v2).setCell ⟨b, 3, none⟩ v3).setCell ⟨b, 4, none⟩ v4).heap.size = w1.heap.size := by simp [World.setCell]
theorem five_far {b k : Nat} {v0 v1 v2 v3 v4 : Value} (hk : k ≠ b) : (((((w1.setCell ⟨b, 0, none⟩ v0).setCell ⟨b, 1, none⟩ v1).setCell ⟨b, 2, none⟩ v2).setCell ⟨b, 3, none⟩ v3).setCell ⟨b, 4, none⟩ v4).heap[k]? = w1.heap[k]? := by
  rw [Below.heap_setCell _ _ _ _ hk, Below.heap_setCell _ _ _ _ hk, Below.heap_setCell _ _ _ _ hk, Below.heap_setCell _ _ _ _ hk, Below.heap_setCell _ _ _ _ hk]
theorem lineE_err {o : Out} {k : Int} (h : lineE o = .error k) : k = 2 ∨ k = 3 := by
  unfold lineE at h
  repeat' split at h
  all_goals first | (cases h; done) | (injection h with h; omega)
theorem readE_errs {s : Prog × Int × Int} {l : List (Nat × List Api.Wd)} {x : Nat × Int} (h : readE s l = .error x) : x.2 = 2 ∨ x.2 = 3 := by
  induction l generalizing s with
  | nil => cases h
  | cons y l ih =>
    obtain ⟨k, ws⟩ := y
    simp only [readE] at h
    cases hE : lineE (lineO s.1 s.2.1 s.2.2 (ws.headD []) ws.tail) with
    | error e => rw [hE] at h; injection h with h; subst h; exact lineE_err hE
    | ok s' => rw [hE] at h; exact ih h
theorem parseE_errs {l : List (Nat × List Api.Wd)} {x : Nat × Int} (h : parseE l = .error x) : x.2 = 2 ∨ x.2 = 3 := by
  unfold parseE at h
  cases hR : readE (⟨false, [], [], [], []⟩, 1, 0) l with
  | error e => rw [hR] at h; injection h with h; subst h; exact readE_errs hR
  | ok s =>
    rw [hR] at h
    simp only at h
    split at h
    · cases h
    · injection h with h; subst h; exact .inr rfl
theorem own_beside {g : Nat} {t : TypeId} {cs : List Value} (h : Own w g t cs) (hb : Beside base rb w w1) (h1 : g < base) (h2 : g ≠ rb) : Own w1 g t cs := (hb.block g h1 h2).trans h
theorem below_of_beside {b : Nat} {x : Obj} (h : Below b w w1) (h2 : Beside (w1.alloc x).heap.size w1.heap.size (w1.alloc x) w2) (hb : b ≤ w1.heap.size) : Below b w w2 :=
  (h.alloc hb x).trans ⟨h2.os, h2.tape, h2.output, h2.size, fun k hk => h2.block k (by simp; omega) (by omega)⟩
theorem own_al {g : Nat} {t : TypeId} {cs : List Value} (h : Own w g t cs) (x : Obj) : Own (w.alloc x) g t cs := (heap_alloc_old w x (Array.getElem?_eq_some_iff.1 h).1).trans h
theorem z_below {x : Obj} (hb : Below (w.alloc x).heap.size (w.alloc x) w1) : Below w.heap.size w w1 := ((Below.refl w.heap.size w).alloc (Nat.le_refl _) x).trans (hb.mono (by simp))
theorem z_size {x : Obj} (hb : Below (w.alloc x).heap.size (w.alloc x) w1) : w.heap.size < w1.heap.size := by
  have h1 := hb.size
  have h2 : (w.alloc x).heap.size = w.heap.size + 1 := by simp
  omega
theorem res_beside {g : Nat} {t : TypeId} {cs : List Value} {x : Obj} (h : Own w1 g t cs) (hb : Beside (w1.alloc x).heap.size w1.heap.size (w1.alloc x) w2) (hg : g < w1.heap.size) : Own w2 g t cs := own_beside (own_al h x) hb (by simp; omega) (by omega)
end Go.Proofs.YtikfncgdjnljiaaDoor.Rd5
