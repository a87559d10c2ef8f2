/-
  Layer 11: slices.Backward of a row of numbers: what a range over it gives.
-/
import Derived.RangeFuncNested
import Derived.RangeFuncBound
import Derived.RangeFuncCalls
import Derived.RangeFuncLeaves
import Derived.RangeFuncBox
import Derived.Shelf.Abstract
import Derived.Shelf.RegionOpen
import Derived.WalkKit
import Derived.OwnWalkIn
import Derived.TacticsInMore
import Derived.LoopNIn
import Derived.LoopIn
import Derived.Test.YtiohngbmddfgfaaFlRows
namespace Go.Proofs.Ytiohngbmddfgfaa.Lp11
open Go.RowKit Go.Shelf Api Mem Fl9

attribute [local go_sem] Oper.semAt_some
/-- the t-th from the end on, with its place. -/
def bk (zs : List Int) (t : Nat) : Nat × Int := (zs.length - 1 - t, zs.getD (zs.length - 1 - t) 0)
/-- what a round keeps: all below n0, and the box of the row. -/
def Kpb (n0 Bs : Nat) (W W' : World) : Prop := Below n0 W W' ∧ W'.heap[Bs]? = W.heap[Bs]?
theorem Kpb.refl (n0 Bs : Nat) (W : World) : Kpb n0 Bs W W := ⟨Below.refl _ _, rfl⟩
theorem Kpb.trans {n0 Bs : Nat} {A B C : World} (h : Kpb n0 Bs A B) (k : Kpb n0 Bs B C) : Kpb n0 Bs A C := ⟨h.1.trans k.1, k.2.trans h.2⟩
theorem kpb_cell {n0 Bs : Nat} {A B : World} (h : Kpb n0 Bs A B) : B.cell? ⟨Bs, 0, none⟩ = A.cell? ⟨Bs, 0, none⟩ := by
  unfold World.cell?
  simp only [h.2]
set_option maxHeartbeats 1000000 in
theorem backward_in (F : Fence) (n : Nat) (h6 : F.fn 30) (hro : F.round = none) (a : Option Addr) (len cap : Nat) (w : World) :
    CallsIn F n Try.prog 30 #[.slice a len cap] w fun e w' => e = .returned (.func (.func 44) #[] #[.pointer (some ⟨w.heap.size, 0, none⟩)]) ∧ w' = w.alloc (.cells #[.slice a len cap] 31) := by
  refine callsIn_of_wp Try.func30 rfl h6 ?_ hro
  simp only [Try.ntmps30, List.size_toArray, List.length_cons, List.length_nil, Nat.reduceAdd, Nat.reduceSub, Array.replicate_succ, Array.replicate_zero, List.push_toArray, List.append_toArray, List.nil_append, List.cons_append]
  gi_wp2
  go_ret
  exact ⟨rfl, rfl⟩
set_option maxRecDepth 100000 in
set_option maxHeartbeats 4000000 in
theorem backward1_in (F : Fence) (n : Nat) (h8 : F.fn 44) (hro : F.round = none) (hn : 1 ≤ n) (l Bs lo n0 : Nat) (A : Option Addr) (c : Nat) (zs : List Int) (hz : zs.length ≤ 1000) (J Jx : List Nat → World → Prop)
    (hY : ∀ pre x W, J pre W → pre.length < zs.length → YieldAt F (n - 1) Try.prog l #[.int .i64 ((bk zs x).1 : Int), .int .i64 (bk zs x).2] W fun e W' =>
      (e = .returned (.bool true) ∧ J (pre ++ [x]) W' ∧ Kpb n0 Bs W W') ∨ (e = .returned (.bool false) ∧ Jx (pre ++ [x]) W'))
    (W : World) (hBs : W.cell? ⟨Bs, 0, none⟩ = some (.slice A zs.length c)) (hI : Ints lo n0 W (.slice A zs.length c) zs) (h0 : J [] W) :
    CallsIn F n Try.prog 44 #[.func (.yield l) #[] #[], .pointer (some ⟨Bs, 0, none⟩)] W fun e W' => (∃ v, e = .returned v) ∧
      ((∃ ys, ys = List.range zs.length ∧ J ys W') ∨ (∃ pre, True ∧ Jx pre W')) := by
  have HI := Lib.hid hI
  clear hI
  refine callsIn_of_wp Try.func44 rfl h8 ?_ hro
  simp only [Try.ntmps44, List.size_toArray, List.length_cons, List.length_nil, Nat.reduceAdd, Nat.reduceSub, Array.replicate_succ, Array.replicate_zero, List.push_toArray, List.append_toArray, List.nil_append, List.cons_append]
  gi_wp2
  gi_loopw [3] (fun i wr => ∃ (k : Nat) (iv : Int), k ≤ zs.length ∧ i = .int .i64 iv ∧ iv = (zs.length : Int) - 1 - (k : Int) ∧ J (List.range k) wr ∧ Hid (Kpb n0 Bs W wr)) (fun i _ => (intOf i + 1).toNat)
  case atStart => exact ⟨0, _, Nat.zero_le _, rfl, by omega, h0, Lib.hid (Kpb.refl _ _ _)⟩
  case round =>
    obtain ⟨k, iv, hk, rfl, hiv, hJs, HK⟩ := hrel
    have hbx := (kpb_cell HK.out).trans hBs
    by_cases hlt : k < zs.length
    · obtain ⟨m, hm⟩ : ∃ m : Nat, zs.length - 1 - k = m := ⟨_, rfl⟩
      obtain rfl : iv = (m : Int) := by omega
      obtain ⟨x, hx⟩ : ∃ x, zs[m]? = some x := ⟨_, List.getElem?_eq_getElem (by omega)⟩
      have hbk : bk zs k = (m, x) := by
        unfold bk
        rw [hm, List.getD_eq_getElem?_getD, hx]
        rfl
      obtain ⟨b1, o1, rfl⟩ := addr_of9 HI.out (by omega)
      obtain ⟨c1, _, rfl, n1⟩ := cell_of HI.out hx HK.out.1
      have m1 := n1 _ rfl
      obtain ⟨fn, tmps, assign, body, hy, hR⟩ := hY _ k wr hJs (by rw [List.length_range]; exact hlt)
      rw [hbk] at hy
      dsimp only at hy
      have hml : m < zs.length := by omega
      have e0 : decide ((0 : Int) ≤ (m : Int)) = true := decide_eq_true (by omega)
      have HIV := Lib.hid hiv
      clear n1 hm hiv
      gi_wp2
      refine hR.mono ?_
      rintro e W3 (⟨rfl, hJ3, hk3⟩ | ⟨rfl, hJx3⟩)
      · gi_wp2
        go_roundw
        case rel => exact ⟨k + 1, _, by omega, rfl, by have := HIV.out; omega, by rw [List.range_succ]; exact hJ3, Lib.hid (HK.out.trans hk3)⟩
        case measure => simp [intOf]
      · gi_wp2
        refine bodyPost_ret (results_none rfl _ _ _) rfl ?_
        exact ⟨⟨_, rfl⟩, .inr ⟨_, trivial, hJx3⟩⟩
    · obtain rfl : k = zs.length := by omega
      obtain rfl : iv = -1 := by omega
      gi_wp2
      go_end0
      exact ⟨⟨_, rfl⟩, .inl ⟨_, rfl, hJs⟩⟩
theorem backward_stops (F : Fence) (n : Nat) (h8 : F.fn 44) (hro : F.round = none) (hn : 1 ≤ n) (Bs lo n0 : Nat) (A : Option Addr) (c : Nat) (zs : List Int) (hz : zs.length ≤ 1000) (w : World) (hBs : Bs < w.heap.size) (hn0 : n0 ≤ w.heap.size)
    (hc : w.cell? ⟨Bs, 0, none⟩ = some (.slice A zs.length c)) (hI : Ints lo n0 w (.slice A zs.length c) zs) :
    SeqStopsK F n Try.prog 44 #[.pointer (some ⟨Bs, 0, none⟩)] (fun x : Nat => #[Value.int .i64 ((bk zs x).1 : Int), Value.int .i64 (bk zs x).2]) (Kpb n0 Bs) (fun ys => ys = List.range zs.length)
      (fun _ => True) zs.length w := fun l J Jx W hW _ _ hY h0 => by
  have hc' := (hW.cell (p := ⟨Bs, 0, none⟩) hBs).trans hc
  exact backward1_in F n h8 hro hn l Bs lo n0 A c zs hz J Jx hY W hc' (Ints.move (Still.of_below (hW.mono hn0)) hI) h0
end Go.Proofs.Ytiohngbmddfgfaa.Lp11
