/-
  Layer 12: the names of a set, rising: the library's sort of a map's keys laid at the program; what an instruction uses.
-/
import Derived.Shelf.SlIter.Nil
import Derived.Shelf.SortM.Plain
import Derived.Shelf.SortM.SortNone
import Derived.Ground.GgzProg
import Derived.Ground.SlgmProg
import Derived.Test.YtaeklfljibjpiaaLvUse
import Derived.Test.YtaeklfljibjpiaaCallsN
import Derived.Test.YtaeklfljibjpiaaShCome
namespace Go.Proofs
open Go.RowKit Go.Maps Go.Sort Go.Shelf
shelf_lay_g SlLaysZ.n7 Ggz 7 at Try 51 as Try.keysL
shelf_lay_g SlLaysZ.n6 Ggz 6 at Try 50 as Try.sortedL
shelf_lay_g SlLaysM.n6 Slgm 6 at Try 21 as Try.sortL
theorem Try.sortsL (m : Nat) : AnyZ.SortsIn Try.prog Try.sortedL_ren Fence.wide m :=
  ⟨fun blk off cap ss W hH hblk hsz => callsIn_wide.2 (AnyM.slices_Sort_string Try.sortL blk off cap ss W hH hblk hsz), fun p cap W => callsIn_wide.2 (AnyM.slices_Sort_string_none Try.sortL p cap W)⟩
end Go.Proofs
namespace Go.Proofs.Ytaeklfljibjpiaa.Lv12
open Go.RowKit Api Mem Sh8 Go.Maps Go.Sort Go.Shelf
theorem keys_any (mb : Option Nat) (W : World) : Calls Try.prog 51 #[.map mb] W fun e w' => e = .returned (.func (.func 79) #[] #[.pointer (some ⟨W.heap.size, 0, none⟩)]) ∧ w' = W.alloc (.cells #[.map mb] 69) :=
  (callsIn_wide (n := 5)).1 (AnyZ.keys_in Try.keysL Fence.wide 5 trivial rfl mb W)
set_option maxHeartbeats 1000000 in
theorem keysGive (m b nn : Nat) (hm : 1 ≤ m) (D0 : DataW Unit) (R : Value → Option (DataW Unit × List MemPlace)) (w : World) (hown : w.ownsMap Try.prog 9 R b nn D0) :
    SeqGives Fence.wide m Try.prog 79 #[.pointer (some ⟨w.heap.size, 0, none⟩)] encStr (fun ss => ss.Perm (strKeys D0)) (Maps.size D0) (w.alloc (.cells #[.map (some b)] 69)) :=
  have hbl := hown.lt
  AnyZ.keys_gives (ρ := Try.keysL_ren) { Try.keysL with } Fence.wide _ trivial rfl hm w.heap.size b nn D0 _ (by simp) (by simp) (by
    obtain ⟨es, clock, hb, Ft, hs, hD⟩ := hown
    exact ⟨es, clock, (Below.heap_alloc _ _ b hbl).trans hb, Ft, hs, hD⟩)
set_option maxHeartbeats 1000000 in
theorem sorted_any (b nn : Nat) (D0 : DataW Unit) (R : Value → Option (DataW Unit × List MemPlace)) (w : World) (hown : w.ownsMap Try.prog 9 R b nn D0) (hmax : Maps.size D0 ≤ maxLen) (hbytes : Maps.size D0 * 16 ≤ 140737488355328) :
    Calls Try.prog 50 #[.func (.func 79) #[] #[.pointer (some ⟨w.heap.size, 0, none⟩)]] (w.alloc (.cells #[.map (some b)] 69)) fun e w' => ∃ (v : Value) (ss : List (List UInt8)), e = .returned v ∧ ss.Perm (strKeys D0) ∧
      w'.ownsRow (w.alloc (.cells #[.map (some b)] 69)).heap.size 9 1 v ss.length ((ss.mergeSort (fun x y => decide (x ≤ y))).map encStr) ∧ (v = .slice none 0 0 ↔ ss = []) ∧ Below (w.alloc (.cells #[.map (some b)] 69)).heap.size (w.alloc (.cells #[.map (some b)] 69)) w' :=
  (callsIn_wide (n := 5)).1 (AnyZ.sorted_in Try.sortedL Fence.wide 5 trivial trivial trivial trivial rfl (by omega) (Try.sortsL _) (enters_of Try.func21 (by kernel_rfl) rfl) 79 #[.pointer (some ⟨w.heap.size, 0, none⟩)] trivial (enters_of Try.func79 (by kernel_rfl) rfl) _ _ hmax hbytes _ (keysGive _ b nn (by omega) D0 R w hown))
/-- names, each once, rising. -/
structure Rise (r : List Wd) : Prop where
  nd : r.Nodup
  up : r.Pairwise (· ≤ ·)
theorem rise_eq {a b : List Wd} (ha : Rise a) (hb : Rise b) (h : ∀ x, x ∈ a ↔ x ∈ b) : a = b :=
  List.Perm.eq_of_pairwise (le := (· ≤ ·)) (fun a b _ _ h1 h2 => List.le_antisymm h1 h2) ha.up hb.up ((List.perm_ext_iff_of_nodup ha.nd hb.nd).2 h)
theorem rise_sort {l : List Wd} (h : l.Nodup) : Rise (l.mergeSort (fun x y => decide (x ≤ y))) := by
  refine ⟨(List.mergeSort_perm l _).nodup_iff.2 h, ?_⟩
  have := List.pairwise_mergeSort (le := fun x y : Wd => decide (x ≤ y)) (fun a b c h1 h2 => by simp only [decide_eq_true_eq] at *; exact List.le_trans h1 h2) (fun a b => by simp only [Bool.or_eq_true, decide_eq_true_eq]; exact List.le_total a b) l
  exact this.imp fun h => by simpa using h
/-- the names of S, rising, in new memory. -/
def RiseP (S : Wd → Bool) (w : World) (e : Ending) (w' : World) : Prop :=
  ∃ v r, e = .returned v ∧ Rise r ∧ (∀ x, x ∈ r ↔ S x = true) ∧ w'.ownsRow w.heap.size 9 1 v r.length (r.map str) ∧ (v = .slice none 0 0 ↔ r = []) ∧ Below w.heap.size w w'
theorem own_addr {w : World} {base : Nat} {e : TypeId} {size : Nat} {A : Option Addr} {n c : Nat} {xs : List Value} (h : w.ownsRow base e size (.slice A n c) n xs) {k : Nat} (hk : k < n) : ∃ b, A = some ⟨b, 0, none⟩ ∧ base ≤ b ∧ b < w.heap.size := by
  rcases h.2 with ⟨h', h0⟩ | ⟨g', cap', cur, h', hb, hg, _⟩
  · omega
  · simp only [Value.slice.injEq] at h'
    obtain ⟨rfl, _, _⟩ := h'
    exact ⟨g', rfl, hb, (Array.getElem?_eq_some_iff.1 hg).1⟩
theorem own_at {w : World} {base : Nat} {e : TypeId} {size : Nat} {b n c : Nat} {xs : List Value} (h : w.ownsRow base e size (.slice (some ⟨b, 0, none⟩) n c) n xs) {k : Nat} {u : Value} (hk : xs[k]? = some u) : w.cell? ⟨b, k, none⟩ = some u := by
  have := World.ownsRow.cells h (g := b) rfl k u hk
  unfold Addr.add at this
  split at this <;> simp_all
theorem own_below {w w' : World} {base : Nat} {e : TypeId} {size : Nat} {v : Value} {n : Nat} {xs : List Value} (h : w.ownsRow base e size v n xs) (hb : Below w.heap.size w w') : w'.ownsRow base e size v n xs := World.ownsRow.kept h (row := none) ⟨hb.os, hb.tape, hb.output, hb.size, fun k hk _ => hb.block k hk⟩ (by cases hv : v.ownBlock <;> simp)
theorem set_same {α : Type} {l : List α} {k : Nat} {x : α} (h : l[k]? = some x) : l.set k x = l := by
  apply List.ext_getElem?
  intro j
  rw [List.getElem?_set]
  split
  · rename_i e
    subst e
    split
    · exact h.symm
    · rename_i h2
      rw [List.getElem?_eq_none (by omega)]
  · rfl
set_option maxRecDepth 100000 in
set_option maxHeartbeats 8000000 in
theorem rising_any {U : List Wd} (hU : UOk U) {w : World} {g : Nat} {S : Wd → Bool} (h : SetO U w g S) :
    Calls Try.prog 28 #[.map (some g)] w (RiseP S w) := by
  obtain ⟨D, h1, h2, h3, h4, h5, h6⟩ := h.keys
  have hl := hU.len
  have HB := Lib.hid hU.nm
  have HSub := Lib.hid h.2
  have HK := Lib.hid (keys_any (some g) w)
  have HS := Lib.hid (sorted_any g _ D unitElem w h1 (by unfold maxLen; omega) (by omega))
  have H3 := Lib.hid h3
  have H4 := Lib.hid h4
  have hsz : (strKeys D).length ≤ 1000000000000 := by omega
  clear h h1 h2 h3 h4 h5 h6 hl
  go_enter Try.func28, Try.ntmps28
  go_wp2_with fail
  refine HK.out.mono ?_
  rintro e w1 ⟨rfl, rfl⟩
  go_wp2_with fail
  refine HS.out.mono ?_
  rintro e w2 ⟨v, ss, rfl, hp, hrow, hnil, hb⟩
  obtain ⟨r, hr⟩ : ∃ r, r = ss.mergeSort (fun x y => decide (x ≤ y)) := ⟨_, rfl⟩
  rw [← hr] at hrow
  have hrise : Rise r := by rw [hr]; exact rise_sort (hp.nodup_iff.2 H3.out)
  have hmem : ∀ x, x ∈ r ↔ S x = true := fun x => by rw [hr, List.mem_mergeSort, hp.mem_iff, H4.out x]
  have hlen : ss.length = r.length := by rw [hr, List.length_mergeSort]
  have hls : r.length ≤ 1000000000000 := by rw [← hlen, hp.length_eq]; exact hsz
  have HR := Lib.hid hrise
  have HM := Lib.hid hmem
  have HN := Lib.hid (show v = .slice none 0 0 ↔ r = [] from hnil.trans ⟨fun h => List.eq_nil_of_length_eq_zero (by rw [← hlen, h]; rfl), fun h => List.eq_nil_of_length_eq_zero (by rw [hlen, h]; rfl)⟩)
  have HB2 := Lib.hid (show Below w.heap.size w w2 from ((Below.refl _ w).alloc (Nat.le_refl _) _).trans (hb.mono (by simp)))
  rw [hlen] at hrow
  obtain ⟨A, c, rfl⟩ := row_form hrow
  have HO := Lib.hid (show w2.ownsRow w.heap.size 9 1 (.slice A r.length c) r.length (r.map str) from ownsRow_base_a hrow (by simp))
  clear hr hp hrow hnil hb hrise hmem hlen
  go_wp2_with fail
  go_loopw [11] (fun i wr => ∃ k : Nat, k ≤ r.length ∧ i = .int .i64 k ∧ Hid (wr.ownsRow w.heap.size 9 1 (.slice A r.length c) r.length (r.map str)) ∧ Hid (Below w.heap.size w wr)) (fun i _ => r.length - (intOf i).toNat)
  case atStart => exact ⟨0, Nat.zero_le _, rfl, HO, HB2⟩
  case round =>
  clear HO HB2
  obtain ⟨k, hk, rfl, HO, HBr⟩ := hrel
  by_cases hlt : k < r.length
  · obtain ⟨x, hx⟩ : ∃ x, r[k]? = some x := ⟨_, List.getElem?_eq_getElem hlt⟩
    obtain ⟨b, rfl, hbase, hb⟩ := own_addr HO.out hlt
    have hc := own_at HO.out (show (r.map str)[k]? = some (str x) by rw [List.getElem?_map, hx]; rfl)
    have hf := HO.out.frozenAt k
    have HC := Lib.hid (fun (w' : World) => clone_any ⟨x.toArray⟩ w' (by have := HB.out x (HSub.out x ((HM.out x).1 (List.mem_of_getElem? hx))); simp [ByteArray.size]; omega))
    have hxm : (r.map str)[k]? = some (str x) := by rw [List.getElem?_map, hx]; rfl
    have HX := Lib.hid (show (r.map str).set k (str x) = r.map str from set_same hxm)
    have HXM := Lib.hid hxm
    clear hxm
    clear hx
    go_wp2_with fail
    refine (HC.out wr).mono ?_
    rintro e w5 ⟨rfl, hb5⟩
    have ho5 := own_below HO.out hb5
    have m1 := ho5.frozenAt k
    have m2 := own_at ho5 HXM.out
    have HS5 := Lib.hid (ho5.stored k (str x)).1
    have hb6 := HBr.out.trans (hb5.mono HBr.out.size)
    have HB5 := Lib.hid (hb6.grown (ho5.stored k (str x)).2 hb6.size (fun j hj => by cases hj; exact hbase))
    have HS6 := Lib.hid (show (w5.setCell ⟨b, k, none⟩ (str x)).ownsRow w.heap.size 9 1 (.slice (some ⟨b, 0, none⟩) r.length c) r.length (r.map str) by have h := HS5.out; rwa [HX.out] at h)
    clear ho5 hb5 hb6
    go_wp2_with fail
    go_roundw
    case rel => exact ⟨k + 1, by omega, by go_num, HS6, HB5⟩
    case measure => simp [intOf]; omega
  · obtain rfl : k = r.length := by omega
    go_wp2_with fail
    go_ret
    exact ⟨_, r, rfl, HR.out, HM.out, HO.out, HN.out, HBr.out⟩
theorem rise_lower {S : Wd → Bool} {w w5 w' : World} {e : Ending} (h : RiseP S w5 e w') (hb : Below w.heap.size w w5) : RiseP S w e w' := by
  obtain ⟨v, r, h1, h2, h3, h4, h5, h6⟩ := h
  exact ⟨v, r, h1, h2, h3, ownsRow_base_a h4 hb.size, h5, hb.trans (h6.mono hb.size)⟩
theorem rise_same {S S' : Wd → Bool} {w w' : World} {e : Ending} (h : RiseP S w e w') (hs : ∀ y, S y = S' y) : RiseP S' w e w' := by
  obtain rfl : S = S' := funext hs
  exact h
end Go.Proofs.Ytaeklfljibjpiaa.Lv12
