/-
  Package show: all, of each type.
-/
import Derived.Test.YtikfncgdjnljiaaDoorOfs
import Derived.Lib.Hide
namespace Go.Proofs.YtikfncgdjnljiaaDoor.Sh6
open Go.RowKit Api Syn WordM Mem Rd5

theorem allR_no {α : Type} {m : Nat} {f : α → Bool} {l : List α} {k : Nat} {x : α} (hx : l[k]? = some x) (h : f x = false) : allR m f l = false := by
  unfold allR
  have : l.all f = false := by rw [List.all_eq_false]; exact ⟨x, List.mem_of_getElem? hx, by simp [h]⟩
  rw [this]; simp
theorem all_next {α : Type} {f : α → Bool} {l : List α} {k : Nat} {x : α} (hx : l[k]? = some x) (h : f x = true) (hk : (l.take k).all f = true) : (l.take (k + 1)).all f = true := by
  obtain ⟨hk', e⟩ := List.getElem?_eq_some_iff.1 hx
  rw [List.take_succ_eq_append_getElem hk', List.all_append, hk, e]
  simp [h]
abbrev fv (f : Nat) : Value := .func (.func f) #[] #[]
/-- A function of one argument that tells of it what R does, and makes at most new memory. -/
def Tells {α : Type} (f : Nat) (E : World → List Value → α → Prop) (V : List Value → Value) (R : α → Bool) (w0 : World) (l : List α) : Prop :=
  (∀ args w, (callFunc f args).run Tryd.prog w = .ok (.enter f args) w) ∧ ∀ (w : World) (cs : List Value) (x : α), Below w0.heap.size w0 w → x ∈ l → E w cs x → Calls Tryd.prog f #[V cs] w fun e w' => e = .returned (.bool (R x)) ∧ Below w.heap.size w w'

end Go.Proofs.YtikfncgdjnljiaaDoor.Sh6
