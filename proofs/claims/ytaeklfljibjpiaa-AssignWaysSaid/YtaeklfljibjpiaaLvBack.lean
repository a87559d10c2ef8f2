/-
  Layer 12: slices.Backward of a row of instructions: what a range over it gives.
-/
import Derived.RangeFuncNested
import Derived.RangeFuncBound
import Derived.RangeFuncCalls
import Derived.RangeFuncLeaves
import Derived.RangeFuncBox
import Derived.Shelf.Abstract
import Derived.Shelf.RegionOpen
import Derived.WalkKit
import Derived.OwnWalkIn
import Derived.TacticsInMore
import Derived.LoopNIn
import Derived.LoopIn
import Derived.Test.YtaeklfljibjpiaaLvNeed
namespace Go.Proofs.Ytaeklfljibjpiaa.Lv12
open Go.RowKit Go.Shelf Api Mem

attribute [local go_sem] Oper.semAt_some
/-- the cells of each thing of a row. -/
theorem cells_fun {α : Type} {lo hi : Nat} {w : World} {size n cap : Nat} {A : Option Addr} {P : List Value → α → Prop} {l : List α} (h : Row lo hi w size P (.slice A n cap) l) : ∃ f : Nat → List Value, ∀ k x, l[k]? = some x → ∃ b o, A = some ⟨b, o, none⟩ ∧ b < hi ∧ (∀ j u, (f k)[j]? = some u → w.cell? ⟨b, o + k * size + j, none⟩ = some u) ∧ P (f k) x := by
  have h1 : ∀ k, ∃ cs : List Value, ∀ x, l[k]? = some x → ∃ b o, A = some ⟨b, o, none⟩ ∧ b < hi ∧ (∀ j u, cs[j]? = some u → w.cell? ⟨b, o + k * size + j, none⟩ = some u) ∧ P cs x := fun k => by
    cases hx : l[k]? with
    | none => exact ⟨[], fun x e => by cases e⟩
    | some y =>
      obtain ⟨b, o, e, hb, cs, _, hc, hp⟩ := row_at h hx
      exact ⟨cs, fun x e2 => by cases e2; exact ⟨b, o, e, hb, hc, hp⟩⟩
  exact Classical.axiomOfChoice h1
/-- cells as those of an instruction are. -/
def Sixth (cs : List Value) : Prop := ∃ (a : Int) (s t : Wd) (A1 A2 A3 : Option Addr) (n1 c1 n2 c2 n3 c3 : Nat), cs = [i64 a, str s, str t, .slice A1 n1 c1, .slice A2 n2 c2, .slice A3 n3 c3]
theorem instr_fun {lo hi : Nat} {w : World} {n cap : Nat} {A : Option Addr} {l : List Instr} (h : Instrs lo hi w (.slice A n cap) l) : ∃ f : Nat → List Value, (∀ k, Sixth (f k)) ∧ ∀ k x, l[k]? = some x → ∃ b o, A = some ⟨b, o, none⟩ ∧ b < hi ∧ (∀ j u, (f k)[j]? = some u → w.cell? ⟨b, o + k * 6 + j, none⟩ = some u) ∧ InstrC lo hi w (f k) x := by
  have h1 : ∀ k, ∃ cs : List Value, Sixth cs ∧ ∀ x, l[k]? = some x → ∃ b o, A = some ⟨b, o, none⟩ ∧ b < hi ∧ (∀ j u, cs[j]? = some u → w.cell? ⟨b, o + k * 6 + j, none⟩ = some u) ∧ InstrC lo hi w cs x := fun k => by
    cases hx : l[k]? with
    | none => exact ⟨[i64 0, str [], str [], .slice none 0 0, .slice none 0 0, .slice none 0 0], ⟨0, [], [], none, none, none, 0, 0, 0, 0, 0, 0, rfl⟩, fun x e => by cases e⟩
    | some y =>
      obtain ⟨b, o, e, hb, cs, _, hc, hp⟩ := row_at h hx
      refine ⟨cs, ?_, fun x e2 => by cases e2; exact ⟨b, o, e, hb, hc, hp⟩⟩
      obtain ⟨u1, u2, u3, rfl, q1, q2, q3⟩ := hp
      obtain ⟨A1, k1, rfl⟩ := Row.form q1
      obtain ⟨A2, k2, rfl⟩ := Row.form q2
      obtain ⟨A3, k3, rfl⟩ := Row.form q3
      exact ⟨_, _, _, _, _, _, _, _, _, _, _, _, rfl⟩
  obtain ⟨f, hf⟩ := Classical.axiomOfChoice h1
  exact ⟨f, fun k => (hf k).1, fun k => (hf k).2⟩
/-- what a round keeps: all below n0, and the box of the row. -/
def Kpb (n0 Bs : Nat) (W W' : World) : Prop := Below n0 W W' ∧ W'.heap[Bs]? = W.heap[Bs]?
theorem Kpb.refl (n0 Bs : Nat) (W : World) : Kpb n0 Bs W W := ⟨Below.refl _ _, rfl⟩
theorem Kpb.trans {n0 Bs : Nat} {A B C : World} (h : Kpb n0 Bs A B) (k : Kpb n0 Bs B C) : Kpb n0 Bs A C := ⟨h.1.trans k.1, k.2.trans h.2⟩
theorem kpb_cell {n0 Bs : Nat} {A B : World} (h : Kpb n0 Bs A B) : B.cell? ⟨Bs, 0, none⟩ = A.cell? ⟨Bs, 0, none⟩ := by
  unfold World.cell?
  simp only [h.2]
set_option maxHeartbeats 1000000 in
theorem backward_in (F : Fence) (n : Nat) (h6 : F.fn 26) (hro : F.round = none) (a : Option Addr) (len cap : Nat) (w : World) :
    CallsIn F n Try.prog 26 #[.slice a len cap] w fun e w' => e = .returned (.func (.func 48) #[] #[.pointer (some ⟨w.heap.size, 0, none⟩)]) ∧ w' = w.alloc (.cells #[.slice a len cap] 36) := by
  refine callsIn_of_wp Try.func26 rfl h6 ?_ hro
  simp only [Try.ntmps26, List.size_toArray, List.length_cons, List.length_nil, Nat.reduceAdd, Nat.reduceSub, Array.replicate_succ, Array.replicate_zero, List.push_toArray, List.append_toArray, List.nil_append, List.cons_append]
  gi_wp2
  go_ret
  exact ⟨rfl, rfl⟩
/-- what is handed on behind x others. -/
def bkA (f : Nat → List Value) (n x : Nat) : Array Value := #[.int .i64 ((n - 1 - x : Nat) : Int), .agg (f (n - 1 - x)).toArray]
set_option maxRecDepth 100000 in
set_option maxHeartbeats 4000000 in
theorem backward1_in (F : Fence) (n : Nat) (h8 : F.fn 48) (hro : F.round = none) (hn : 1 ≤ n) (l Bs lo hi n0 : Nat) (A : Option Addr) (c : Nat) (zs : List Instr) (f : Nat → List Value) (hz : zs.length ≤ 1000000000000) (hhn : hi ≤ n0) (J Jx : List Nat → World → Prop)
    (hY : ∀ pre x W, J pre W → pre.length < zs.length → YieldAt F (n - 1) Try.prog l (bkA f zs.length x) W fun e W' =>
      (e = .returned (.bool true) ∧ J (pre ++ [x]) W' ∧ Kpb n0 Bs W W') ∨ (e = .returned (.bool false) ∧ Jx (pre ++ [x]) W'))
    (W : World) (hBs : W.cell? ⟨Bs, 0, none⟩ = some (.slice A zs.length c))
    (hI : ∀ k x, zs[k]? = some x → ∃ b o, A = some ⟨b, o, none⟩ ∧ b < hi ∧ (∀ j u, (f k)[j]? = some u → W.cell? ⟨b, o + k * 6 + j, none⟩ = some u) ∧ InstrC lo hi W (f k) x) (h0 : J [] W) :
    CallsIn F n Try.prog 48 #[.func (.yield l) #[] #[], .pointer (some ⟨Bs, 0, none⟩)] W fun e W' => (∃ v, e = .returned v) ∧
      ((∃ ys, ys = List.range zs.length ∧ J ys W') ∨ (∃ pre, True ∧ Jx pre W')) := by
  have HI := Lib.hid hI
  clear hI
  refine callsIn_of_wp Try.func48 rfl h8 ?_ hro
  simp only [Try.ntmps48, List.size_toArray, List.length_cons, List.length_nil, Nat.reduceAdd, Nat.reduceSub, Array.replicate_succ, Array.replicate_zero, List.push_toArray, List.append_toArray, List.nil_append, List.cons_append]
  gi_wp2
  gi_loopw [3] (fun i wr => ∃ (k : Nat) (iv : Int), k ≤ zs.length ∧ i = .int .i64 iv ∧ iv = (zs.length : Int) - 1 - (k : Int) ∧ J (List.range k) wr ∧ Hid (Kpb n0 Bs W wr)) (fun i _ => (intOf i + 1).toNat)
  case atStart => exact ⟨0, _, Nat.zero_le _, rfl, by omega, h0, Lib.hid (Kpb.refl _ _ _)⟩
  case round =>
    obtain ⟨k, iv, hk, rfl, hiv, hJs, HK⟩ := hrel
    have hbx := (kpb_cell HK.out).trans hBs
    by_cases hlt : k < zs.length
    · obtain ⟨m, hm⟩ : ∃ m : Nat, zs.length - 1 - k = m := ⟨_, rfl⟩
      obtain rfl : iv = (m : Int) := by omega
      obtain ⟨x, hx⟩ : ∃ x, zs[m]? = some x := ⟨_, List.getElem?_eq_getElem (by omega)⟩
      obtain ⟨b1, o1, rfl, hb1, hcs, u1, u2, u3, hf, _, _, _⟩ := HI.out m x hx
      have hbk : bkA f zs.length k = #[.int .i64 (m : Int), .agg #[i64 x.op, str x.dst, str x.name, u1, u2, u3]] := by
        unfold bkA
        rw [hm, hf]
      rw [hf] at hcs
      obtain ⟨m0, m1, m2, m3, m4, m5⟩ := at6 (cells_later hcs HK.out.1 (by omega))
      obtain ⟨fn, tmps, assign, body, hy, hR⟩ := hY _ k wr hJs (by rw [List.length_range]; exact hlt)
      rw [hbk] at hy
      have hml : m < zs.length := by omega
      have e0 : decide ((0 : Int) ≤ (m : Int)) = true := decide_eq_true (by omega)
      have HIV := Lib.hid hiv
      clear hcs hm hiv hf hbk hx
      gi_wp2
      refine hR.mono ?_
      rintro e W3 (⟨rfl, hJ3, hk3⟩ | ⟨rfl, hJx3⟩)
      · gi_wp2
        go_roundw
        case rel => exact ⟨k + 1, _, by omega, rfl, by have := HIV.out; omega, by rw [List.range_succ]; exact hJ3, Lib.hid (HK.out.trans hk3)⟩
        case measure => simp [intOf]
      · gi_wp2
        refine bodyPost_ret (results_none rfl _ _ _) rfl ?_
        exact ⟨⟨_, rfl⟩, .inr ⟨_, trivial, hJx3⟩⟩
    · obtain rfl : k = zs.length := by omega
      obtain rfl : iv = -1 := by omega
      gi_wp2
      go_end0
      exact ⟨⟨_, rfl⟩, .inl ⟨_, rfl, hJs⟩⟩
theorem backward_stops (F : Fence) (n : Nat) (h8 : F.fn 48) (hro : F.round = none) (hn : 1 ≤ n) (Bs lo hi n0 : Nat) (A : Option Addr) (c : Nat) (zs : List Instr) (f : Nat → List Value) (hz : zs.length ≤ 1000000000000) (hhn : hi ≤ n0) (w : World) (hBs : Bs < w.heap.size) (hn0 : n0 ≤ w.heap.size)
    (hc : w.cell? ⟨Bs, 0, none⟩ = some (.slice A zs.length c)) (hI : ∀ k x, zs[k]? = some x → ∃ b o, A = some ⟨b, o, none⟩ ∧ b < hi ∧ (∀ j u, (f k)[j]? = some u → w.cell? ⟨b, o + k * 6 + j, none⟩ = some u) ∧ InstrC lo hi w (f k) x) :
    SeqStopsK F n Try.prog 48 #[.pointer (some ⟨Bs, 0, none⟩)] (fun x : Nat => bkA f zs.length x) (Kpb n0 Bs) (fun ys => ys = List.range zs.length)
      (fun _ => True) zs.length w := fun l J Jx W hW _ _ hY h0 => by
  have hc' := (hW.cell (p := ⟨Bs, 0, none⟩) hBs).trans hc
  refine backward1_in F n h8 hro hn l Bs lo hi n0 A c zs f hz hhn J Jx hY W hc' (fun k x hx => ?_) h0
  obtain ⟨b, o, rfl, hb, hcs, hp⟩ := hI k x hx
  exact ⟨b, o, rfl, hb, cells_later hcs (hW.mono (Nat.le_trans hhn hn0)) hb, InstrC.move (Still.of_below (hW.mono (Nat.le_trans hhn hn0))) hp⟩
end Go.Proofs.Ytaeklfljibjpiaa.Lv12
