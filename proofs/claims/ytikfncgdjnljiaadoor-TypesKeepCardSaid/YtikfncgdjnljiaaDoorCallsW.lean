/-
  word.isDigit, word.isLetter, word.Name, walked.
  word.Right, word.Put, walked.
  word.readNought, word.read, word.Get, walked.
  word.Get, walked.
-/
import Derived.Test.YtikfncgdjnljiaaDoorPlainN
import Derived.Test.YtikfncgdjnljiaaDoorCallsN
import Derived.Test.YtikfncgdjnljiaaDoorCallsF
import Derived.Deep.QuietTactic
import Derived.BigQuiet
import Derived.WalkSmall
import Derived.Laws.ResultCell
namespace Go.Proofs.YtikfncgdjnljiaaDoor
open Go.RowKit NumM FloM WordM Mem

theorem len_lit (n : Nat) (k : Nat) : decide ((k : Int) < (n : Int)) = decide (k < n) := by simp

/-- the walk's letters and digits are the plain ones. -/
theorem letB_eq (c : UInt8) : letB c = (decide (97 ≤ (c.toNat : Int)) && decide ((c.toNat : Int) ≤ 122) || decide (65 ≤ (c.toNat : Int)) && decide ((c.toNat : Int) ≤ 90) || ((c.toNat : Int) == 95)) := rfl

theorem nameV_nil : nameV [] = false := by decide +kernel
theorem nameV_long {l : List UInt8} (h : 16 < l.length) : nameV l = false := by
  unfold nameV; rw [show decide (l.length ≤ 16) = false from decide_eq_false (by omega)]; simp
theorem nameV_digit {c : UInt8} {t : List UInt8} (h : digB c = true) : nameV (c :: t) = false := by
  unfold nameV; rw [List.headD_cons, h]; simp
theorem nameV_bad {l : List UInt8} {c : UInt8} (h : c ∈ l) (hc : (letB c || digB c) = false) : nameV l = false := by
  have : l.all (fun c => letB c || digB c) = false := by
    rw [List.all_eq_false]
    exact ⟨c, h, by simp [hc]⟩
  unfold nameV; rw [this]; simp
theorem nameV_end {c : UInt8} {t : List UInt8} (h1 : (c :: t).length ≤ 16) (h2 : digB c = false) (h3 : (c :: t).all (fun c => letB c || digB c) = true) :
    nameV (c :: t) = ((c :: t != nullL) && (c :: t != intL) && (c :: t != floatL)) := by
  unfold nameV
  rw [List.headD_cons, h2, h3, show decide ((c :: t).length ≤ 16) = true from decide_eq_true h1]
  simp

end Go.Proofs.YtikfncgdjnljiaaDoor

namespace Go.Proofs.YtikfncgdjnljiaaDoor
open Go.RowKit NumM FloM WordM Mem

theorem one_more (w : World) (o : Obj) : Below w.heap.size w (w.alloc o) := (Below.refl _ w).alloc (Nat.le_refl _) o

/-- what a boxed argument holds behind a call that turns nothing of it. -/
theorem box3 {w w1 : World} {t : TypeId} {v0 v1 v2 : Value} (hb : Below (w.alloc (.cells #[v0, v1, v2] t)).heap.size (w.alloc (.cells #[v0, v1, v2] t)) w1) :
    w1.cell? ⟨w.heap.size, 0, none⟩ = some v0 ∧ w1.cell? ⟨w.heap.size, 1, none⟩ = some v1 ∧ w1.cell? ⟨w.heap.size, 2, none⟩ = some v2 := by
  have o : Own w1 w.heap.size t [v0, v1, v2] := (Own.made w t [v0, v1, v2]).below hb (by simp)
  exact ⟨o.cell 0, o.cell 1, o.cell 2⟩
theorem box3s {w w1 : World} {t : TypeId} {v0 v1 v2 : Value} (hb : Below (w.alloc (.cells #[v0, v1, v2] t)).heap.size (w.alloc (.cells #[v0, v1, v2] t)) w1) :
    w1.frozen? ⟨w.heap.size, 0, none⟩ = false ∧ w1.frozen? ⟨w.heap.size, 1, none⟩ = false ∧ w1.frozen? ⟨w.heap.size, 2, none⟩ = false ∧ w.heap.size < w1.heap.size := by
  have o : Own w1 w.heap.size t [v0, v1, v2] := (Own.made w t [v0, v1, v2]).below hb (by simp)
  exact ⟨o.thaw 0, o.thaw 1, o.thaw 2, o.lt⟩

theorem grow3 {w x y : World} (h : Below w.heap.size w x) (k : Below x.heap.size x y) : Below w.heap.size w y := h.trans (k.mono h.size)

end Go.Proofs.YtikfncgdjnljiaaDoor

namespace Go.Proofs.YtikfncgdjnljiaaDoor
open Go.RowKit NumM FloM WordM Mem

def valP (g : A × Bool) : Ending := .returned (.tuple #[val g.1, .bool g.2])

theorem put3 {w w1 : World} {g : Nat} {v0 v1 v2 : Value} (hg : w.heap.size ≤ g) (h : Below w.heap.size w w1) : Below w.heap.size w (((w1.setCell ⟨g, 0, none⟩ v0).setCell ⟨g, 1, none⟩ v1).setCell ⟨g, 2, none⟩ v2) :=
  ((h.setCell hg _).setCell hg _).setCell hg _

theorem not_empty (s : ByteArray) (h0 : 0 < s.size) : s.toList.isEmpty = false := by
  rw [ByteArray.toList_eq]
  have : s.data.toList.length = s.size := by rw [Array.length_toList]; rfl
  cases hx : s.data.toList with
  | nil => rw [hx] at this; simp at this; omega
  | cons => rfl

theorem head_split (s : ByteArray) (h0 : 0 < s.size) : ∃ t, s.data.toList = s[0] :: t := by
  have hh := head_of s h0
  cases hx : s.data.toList with
  | nil => rw [hx] at hh; simp at hh
  | cons c t => rw [hx] at hh; exact ⟨t, by rw [Option.some.inj hh]⟩
theorem u8_is {c d : UInt8} (h : c.toNat = d.toNat) : c = d := UInt8.toNat_inj.1 h

end Go.Proofs.YtikfncgdjnljiaaDoor

namespace Go.Proofs.YtikfncgdjnljiaaDoor
open Go.RowKit NumM FloM WordM Mem

theorem own3 {w : World} {g : Nat} {t : TypeId} {v0 v1 v2 : Value} (o : Own w g t [v0, v1, v2]) :
    (w.cell? ⟨g, 0, none⟩ = some v0 ∧ w.cell? ⟨g, 1, none⟩ = some v1 ∧ w.cell? ⟨g, 2, none⟩ = some v2) ∧
    (w.frozen? ⟨g, 0, none⟩ = false ∧ w.frozen? ⟨g, 1, none⟩ = false ∧ w.frozen? ⟨g, 2, none⟩ = false) ∧ g < w.heap.size :=
  ⟨⟨o.cell 0, o.cell 1, o.cell 2⟩, ⟨o.thaw 0, o.thaw 1, o.thaw 2⟩, o.lt⟩
theorem made3 {w w1 : World} {t : TypeId} {v0 v1 v2 : Value} (hb : Below (w.alloc (.cells #[v0, v1, v2] t)).heap.size (w.alloc (.cells #[v0, v1, v2] t)) w1) : Own w1 w.heap.size t [v0, v1, v2] :=
  (Own.made w t [v0, v1, v2]).below hb (by simp)
theorem keep3 {w1 w2 : World} {g : Nat} {t : TypeId} {cs : List Value} {x : Obj} (o : Own w1 g t cs) (hb : Below (w1.alloc x).heap.size (w1.alloc x) w2) : Own w2 g t cs :=
  (o.alloc x).below hb (by have := o.lt; simp; omega)

end Go.Proofs.YtikfncgdjnljiaaDoor
