/-
  Layer 12: the library's copy of a map, and the collected keys of one, laid at the program.
-/
import Derived.Shelf.SlMaps.Clone
import Derived.Ground.SlmcProg
import Derived.Test.YtaeklfljibjpiaaLvBack
namespace Go.Proofs
open Go.RowKit Go.Maps Go.Sort Go.Shelf
shelf_lay_g SlLaysW.n5 Slmc 5 at Try 40 as Try.cloneL
shelf_lay_g SlLaysZ.n8 Ggz 8 at Try 76 as Try.collectL
end Go.Proofs
namespace Go.Proofs.Ytaeklfljibjpiaa.Lv12
open Go.RowKit Api Mem Sh8 Go.Maps Go.Sort Go.Shelf
theorem mclone_any {U : List Wd} {w : World} {g : Nat} {S : Wd → Bool} (h : SetO U w g S) : Calls Try.prog 40 #[.map (some g)] w fun e w' => e = .returned (.map (some w.heap.size)) ∧ SetO U w' w.heap.size S ∧ Below w.heap.size w w' := by
  obtain ⟨⟨D, h1, h2⟩, h3⟩ := h
  exact (AnyW.maps_Clone_owns Try.cloneL 9 unitElem g _ D w h1).mono fun e w' ⟨q1, q2, _, q4⟩ => ⟨q1, ⟨⟨D, own_size q2, h2⟩, h3⟩, q4⟩
set_option maxHeartbeats 1000000 in
theorem collect_any {U : List Wd} (hU : UOk U) {w : World} {g : Nat} {S : Wd → Bool} (h : SetO U w g S) : Calls Try.prog 76 #[.func (.func 79) #[] #[.pointer (some ⟨w.heap.size, 0, none⟩)]] (w.alloc (.cells #[.map (some g)] 69)) fun e w' => ∃ (v : Value) (ss : List Wd), e = .returned v ∧ ss.Nodup ∧ (∀ x, x ∈ ss ↔ S x = true) ∧ ss.length ≤ U.length ∧ w'.ownsRow w.heap.size 9 1 v ss.length (ss.map str) ∧ Below w.heap.size w w' := by
  obtain ⟨D, h1, h2, h3, h4, h5, h6⟩ := h.keys
  have hl := hU.len
  refine ((callsIn_wide (n := 5)).1 (AnyZ.collect_in Try.collectL Fence.wide 5 trivial trivial rfl (by omega) 79 #[.pointer (some ⟨w.heap.size, 0, none⟩)] trivial (enters_of Try.func79 (by kernel_rfl) rfl) _ _ (by unfold maxLen; omega) (by omega) _ (keysGive _ g _ (by omega) D unitElem w h1))).mono ?_
  rintro e w' ⟨v, ss, rfl, hp, hrow, _, hb⟩
  have hp2 : ss.Perm (strKeys D) := hp
  exact ⟨v, ss, rfl, hp2.nodup_iff.2 h3, fun x => by rw [hp2.mem_iff, h4 x], by rw [hp2.length_eq, ← h5]; exact h6, ownsRow_base_a hrow (by simp), ((Below.refl _ w).alloc (Nat.le_refl _) _).trans (hb.mono (by simp))⟩
end Go.Proofs.Ytaeklfljibjpiaa.Lv12
