/-
  Layer 9: the document's own functions that only read: rows of numbers, of truths, and graphs.
-/
import Derived.Test.YtikfncgdjnljiaaDoorMem
import Derived.Test.YtikfncgdjnljiaaDoorPlainS
import Derived.Test.YtikfncgdjnljiaaDoorProg
import Derived.Lib.Hide
import Derived.Lib.Walk
import Derived.Deep.RegionLaw
namespace Go.Proofs.YtikfncgdjnljiaaDoor.Fl9
open Go.RowKit Api Mem

def Ints (lo hi : Nat) (w : World) (v : Value) (l : List Int) : Prop := Row lo hi w 1 (fun cs x => cs = [i64 x]) v l
def Bools (lo hi : Nat) (w : World) (v : Value) (l : List Bool) : Prop := Row lo hi w 1 (fun cs x => cs = [.bool x]) v l
def Graph (lo hi : Nat) (w : World) (v : Value) (g : List (List Int)) : Prop := Row lo hi w 1 (fun cs l => ∃ u, cs = [u] ∧ Ints lo hi w u l) v g
section
variable {lo hi lo' hi' : Nat} {w w' : World} (s : Still lo hi lo' hi' w w')
include s
theorem Ints.move {v : Value} {l : List Int} (h : Ints lo hi w v l) : Ints lo' hi' w' v l := Row.move h s.keep s.low s.high fun _ _ h => h
theorem Bools.move {v : Value} {l : List Bool} (h : Bools lo hi w v l) : Bools lo' hi' w' v l := Row.move h s.keep s.low s.high fun _ _ h => h
theorem Graph.move {v : Value} {g : List (List Int)} (h : Graph lo hi w v g) : Graph lo' hi' w' v g := Row.move h s.keep s.low s.high fun _ _ ⟨u, e, h⟩ => ⟨u, e, Ints.move s h⟩
end
def BP9 (p : Prop) (w : World) (e : Ending) (w' : World) : Prop := ∃ b : Bool, e = .returned (.bool b) ∧ (b = true ↔ p) ∧ Below w.heap.size w w'
def TP9 (p : Prop) (w : World) (e : Ending) (w' : World) : Prop := ∃ b : Bool, e = .returned (.bool b) ∧ (b = true → p) ∧ Below w.heap.size w w'
theorem cell_of {α : Type} {lo hi : Nat} {w w' : World} {b off n cap i : Nat} {P : List Value → α → Prop} {l : List α} {x : α} (h : Row lo hi w 1 P (.slice (some ⟨b, off, none⟩) n cap) l) (hx : l[i]? = some x) (hb : Below hi w w') : ∃ cs, cs.length = 1 ∧ P cs x ∧ ∀ u, cs[0]? = some u → w'.cell? ⟨b, off + i, none⟩ = some u := by
  obtain ⟨b', off', hn, hm, ha, hc⟩ := h.get
  have hi := (List.getElem?_eq_some_iff.1 hx).1
  obtain ⟨e, h1, h2⟩ := ha (by omega)
  simp only [Option.some.injEq, Addr.mk.injEq, and_true] at e
  obtain ⟨rfl, rfl⟩ := e
  obtain ⟨cs, c1, c2, c3⟩ := hc i x hx
  refine ⟨cs, c1, c3, fun u hu => ?_⟩
  have := cells_later c2 hb h2 0 u hu
  simpa using this
theorem addr_of9 {α : Type} {lo hi : Nat} {w : World} {A : Option Addr} {n cap : Nat} {P : List Value → α → Prop} {l : List α} (h : Row lo hi w 1 P (.slice A n cap) l) (h0 : 0 < n) : ∃ b off, A = some ⟨b, off, none⟩ := by
  obtain ⟨b, off, _, _, ha, _⟩ := h.get
  exact ⟨b, off, (ha h0).1⟩
theorem take_eq {α : Type} {a b : List α} {k : Nat} {x y : α} (h : a.take k = b.take k) (hx : a[k]? = some x) (hy : b[k]? = some y) (e : x = y) : a.take (k + 1) = b.take (k + 1) := by
  obtain ⟨h1, e1⟩ := List.getElem?_eq_some_iff.1 hx
  obtain ⟨h2, e2⟩ := List.getElem?_eq_some_iff.1 hy
  rw [List.take_succ_eq_append_getElem h1, List.take_succ_eq_append_getElem h2, h, e1, e2, e]
theorem ne_at {α : Type} {a b : List α} {k : Nat} {x y : α} (hx : a[k]? = some x) (hy : b[k]? = some y) (e : x ≠ y) : a ≠ b := fun h => by
  rw [h, hy] at hx
  exact e (Option.some.inj hx).symm
/-- few points, which lead to few. -/
def FewG (g : List (List Int)) (most : Int) : Prop := (g.length : Int) ≤ most ∧ ∀ l ∈ g, l.length ≤ 20
theorem take_in9 {α : Type} {l : List α} {k : Nat} {x : α} (hx : l[k]? = some x) {Q : α → Prop} (h : ∀ y ∈ l.take k, Q y) (hq : Q x) : ∀ y ∈ l.take (k + 1), Q y := by
  obtain ⟨hk, e⟩ := List.getElem?_eq_some_iff.1 hx
  intro y hy
  rw [List.take_succ_eq_append_getElem hk, e] at hy
  rcases List.mem_append.1 hy with hy | hy
  · exact h y hy
  · simp at hy
    subst hy
    exact hq
end Go.Proofs.YtikfncgdjnljiaaDoor.Fl9
