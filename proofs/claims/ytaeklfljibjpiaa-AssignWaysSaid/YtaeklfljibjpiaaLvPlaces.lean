/-
  Layer 12: the program's map of places.
-/
import Derived.Test.YtaeklfljibjpiaaShPlaces
import Derived.Test.YtaeklfljibjpiaaLvSet
namespace Go.Proofs.Ytaeklfljibjpiaa.Lv12
open Go.RowKit Api Mem Sh8 Go.Maps

set_option maxRecDepth 100000 in
set_option maxHeartbeats 8000000 in
theorem lplaces_any (lo hi : Nat) (w : World) (cs : List Value) (f : Api.Func) (hf : FuncC lo hi w cs f) (hh : hi ≤ w.heap.size) (hG : nmG f.blocks) :
    Calls Try.prog 43 #[.agg cs.toArray] w fun e w' => ∃ g, e = .returned (.map (some g)) ∧ w.heap.size ≤ g ∧ w'.ownsMap Try.prog 9 (plainElem Try.prog 3) g f.blocks.length (tab 0 (names f.blocks)) ∧ Below w.heap.size w w' := by
  obtain ⟨u1, u2, u3, rfl, kp, kv, kb⟩ := hf
  obtain ⟨nm, rs, ps, vs, bl⟩ := f
  simp only at kp kv kb hG ⊢
  obtain ⟨A1, k1, rfl⟩ := kp.form
  obtain ⟨A2, k2, rfl⟩ := kv.form
  obtain ⟨A3, k3, rfl⟩ := kb.form
  obtain ⟨W, hW⟩ : ∃ W, w.alloc (.cells #[str nm, str rs, .slice A1 ps.length k1, .slice A2 vs.length k2, .slice A3 bl.length k3] 25) = W := ⟨_, rfl⟩
  obtain ⟨o1, b1, z1⟩ := box8 (c := [str nm, str rs, .slice A1 ps.length k1, .slice A2 vs.length k2, .slice A3 bl.length k3]) hW
  have hlb : bl.length ≤ 4611686018427387903 := by obtain ⟨_, _, _, h, _⟩ := kb.get; exact h
  have KB := Lib.hid (Blocks.move (Still.of_below (b1.mono hh)) kb)
  have HO := Lib.hid o1
  have HB := Lib.hid b1
  have HW := Lib.hid hW
  have HHW : Hid (hi ≤ W.heap.size) := Lib.hid (by omega)
  have GB := Lib.hid hG
  have zlt := o1.lt
  clear o1 b1 hW kp kv kb hG
  have hmm := fun (n : Int) (w : World) => run_makeHint (P := Try.prog) (t := 97) Try.underlying97 .i64 n w
  have hm0 := World.ownsMap_made (H := Unit) W Try.prog 9 (plainElem Try.prog 3)
  have hb0 : Below W.heap.size W (W.alloc (.map #[] 0)) := (Below.refl _ _).alloc (Nat.le_refl _) _
  have HM0 := Lib.hid hm0
  have HB0 := Lib.hid hb0
  clear hm0 hb0
  go_enter Try.func43, Try.ntmps43
  go_wp2_with fail
  rw [HW.out]
  have f4' := HO.out.cell 4
  simp only [List.getElem?_cons_succ, List.getElem?_cons_zero] at f4'
  go_wp2_with fail
  go_loopw [4] (fun i wr => ∃ k : Nat, k ≤ bl.length ∧ i = .int .i64 ((k : Int) - 1) ∧ Hid (wr.ownsMap Try.prog 9 (plainElem Try.prog 3) (w.heap.size + 1) (bl.length - k) (tab k ((names bl).drop k))) ∧ Hid (Below W.heap.size W wr)) (fun i _ => (intOf i + 1).toNat)
  case atStart => exact ⟨bl.length, Nat.le_refl _, rfl, Lib.hid (by rw [Nat.sub_self, List.drop_of_length_le (by rw [names_len]; exact Nat.le_refl _), ← z1]; exact HM0.out), HB0⟩
  case round =>
  obtain ⟨k, hk, rfl, HM, HBr⟩ := hrel
  clear f4'
  have f4 := (HO.out.below HBr.out HO.out.lt).cell 4
  simp only [List.getElem?_cons_succ, List.getElem?_cons_zero] at f4
  by_cases hlt : 0 < k
  · obtain ⟨k, rfl⟩ : ∃ j, k = j + 1 := ⟨k - 1, by omega⟩
    obtain ⟨⟨bn, phs, cod, ⟨tk, ⟨ak, as_, an⟩, td, tn⟩⟩, hx⟩ : ∃ y, bl[k]? = some y := ⟨_, List.getElem?_eq_getElem (by omega)⟩
    obtain ⟨b3, of3, hn3, hm3, a3, j3⟩ := KB.out.get
    obtain ⟨rfl, _, hb3⟩ := a3 (by omega)
    obtain ⟨cs3, _, q3, hu⟩ := j3 k _ hx
    have hu2 := BlockC.move (Still.of_below (HBr.out.mono HHW.out)) hu
    obtain ⟨x1, x2, x3, e1', kph, kco, x4, e2', kto⟩ := hu2
    subst e2'
    subst e1'
    obtain ⟨m0, m1, m2, m3, m4, m5, m6, m7, m8⟩ := at9 (cells_later q3 HBr.out (by have := HHW.out; omega))
    have HX := Lib.hid (names_at hx)
    have HKEY := Lib.hid (key_at (GB.out _ (List.mem_of_getElem? hx)))
    clear q3 j3 a3 hx kph kco kto
    have e0 : ((k + 1 : Nat) : Int) - 1 = (k : Int) := by omega
    rw [e0]
    go_wp2_with (first | (at_mapUpdate; refine wpList_mapUpdate_own _ rfl _ _ _ 97 rfl 9 3 lawS Try.underlying97 _ (w.heap.size + 1) (bl.length - (k + 1)) _ rfl HM.out (by unfold maxLen; omega) _ _ _ rfl rfl HKEY.out _ [] (plainElem_int Try.underlying3 (WalkArith.wf_i64 (by omega))) ?_; intro w1 hown1 hgrow1; have HW1 := Lib.hid hown1; have HG1 := Lib.hid hgrow1; clear hown1 hgrow1) | go_in)
    go_roundw
    case rel => exact ⟨k, by omega, by go_num, Lib.hid (by rw [Sh8.drop_at HX.out]; exact (HW1.out).mono (by omega)), Lib.hid (HBr.out.grown HG1.out HBr.out.size (fun j hj => by cases hj; omega))⟩
    case measure => simp [intOf]
  · obtain rfl : k = 0 := by omega
    go_wp2
    go_ret
    exact ⟨w.heap.size + 1, rfl, by omega, HM.out, HB.out.trans (HBr.out.mono HB.out.size)⟩
end Go.Proofs.Ytaeklfljibjpiaa.Lv12
