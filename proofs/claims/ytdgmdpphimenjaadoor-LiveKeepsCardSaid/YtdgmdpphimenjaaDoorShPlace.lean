/-
  Layer 8: Place, the program's and the document's.
-/
import Derived.Test.YtdgmdpphimenjaaDoorShMap
import Derived.Lib.Hide
import Derived.Lib.Walk
namespace Go.Proofs.YtdgmdpphimenjaaDoor.Sh8
open Go.RowKit Api Mem Go.Maps

theorem box8 {w W : World} {t : TypeId} {c : List Value} (h : w.alloc (.cells c.toArray t) = W) : Own W w.heap.size t c ∧ Below w.heap.size w W ∧ W.heap.size = w.heap.size + 1 := by
  subst h
  exact ⟨Own.made w t c, (Below.refl _ _).alloc (Nat.le_refl _) _, by simp⟩
theorem str_eq (x : Wd) (y : Wd) : ((⟨x.toArray⟩ : ByteArray).toList == (⟨y.toArray⟩ : ByteArray).toList) = (x == y) := by
  simp [ByteArray.toList_eq]
set_option maxRecDepth 100000 in
set_option maxHeartbeats 8000000 in
theorem rplace_any (lo hi : Nat) (w : World) (cs : List Value) (f : Api.Func) (hf : FuncC lo hi w cs f) (hh : hi ≤ w.heap.size) (x : Wd) :
    Calls Tryd.prog 60 #[.agg cs.toArray, str x] w fun e w' => e = .returned (.tuple #[i64 (plN (plc (names f.blocks) x)), .bool (plB (plc (names f.blocks) x))]) ∧ Below w.heap.size w w' := by
  obtain ⟨u1, u2, u3, rfl, kp, kv, kb⟩ := hf
  obtain ⟨nm, rs, ps, vs, bl⟩ := f
  simp only at kp kv kb ⊢
  obtain ⟨A1, k1, rfl⟩ := kp.form
  obtain ⟨A2, k2, rfl⟩ := kv.form
  obtain ⟨A3, k3, rfl⟩ := kb.form
  obtain ⟨W, hW⟩ : ∃ W, w.alloc (.cells #[str nm, str rs, .slice A1 ps.length k1, .slice A2 vs.length k2, .slice A3 bl.length k3] 37) = W := ⟨_, rfl⟩
  obtain ⟨o1, b1, z1⟩ := box8 (c := [str nm, str rs, .slice A1 ps.length k1, .slice A2 vs.length k2, .slice A3 bl.length k3]) hW
  have hlb : bl.length ≤ 4611686018427387903 := by obtain ⟨_, _, _, h, _⟩ := kb.get; exact h
  have KB := Lib.hid (Blocks.move (Still.of_below (b1.mono hh)) kb)
  have HO := Lib.hid o1
  have HB := Lib.hid b1
  have HW := Lib.hid hW
  have HHW : Hid (hi ≤ W.heap.size) := Lib.hid (by omega)
  clear o1 b1 hW kp kv kb
  go_enter Tryd.func60, Tryd.ntmps60
  go_wp2_with fail
  rw [HW.out]
  have f4' := HO.out.cell 4
  simp only [List.getElem?_cons_succ, List.getElem?_cons_zero] at f4'
  go_wp2_with fail
  go_loopw [6] (fun i wr => ∃ k : Nat, k ≤ bl.length ∧ i = .int .i64 k ∧ Hid (∀ j, j < k → (names bl)[j]? ≠ some x) ∧ Hid (Below W.heap.size W wr)) (fun i _ => bl.length - (intOf i).toNat)
  case atStart => exact ⟨0, Nat.zero_le _, rfl, Lib.hid (fun j hj => by omega), Lib.hid (Below.refl _ _)⟩
  case round =>
  obtain ⟨k, hk, rfl, HK, HBr⟩ := hrel
  clear f4'
  have f4 := (HO.out.below HBr.out HO.out.lt).cell 4
  simp only [List.getElem?_cons_succ, List.getElem?_cons_zero] at f4
  by_cases hlt : k < bl.length
  · obtain ⟨⟨bn, phs, cod, ⟨tk, ⟨ak, as_, an⟩, td, tn⟩⟩, hx⟩ : ∃ y, bl[k]? = some y := ⟨_, List.getElem?_eq_getElem hlt⟩
    obtain ⟨b3, of3, hn3, hm3, a3, j3⟩ := KB.out.get
    obtain ⟨rfl, _, hb3⟩ := a3 (by omega)
    obtain ⟨cs3, _, q3, hu⟩ := j3 k _ hx
    obtain ⟨x1, x2, x3, e1', _, _, x4, e2', _⟩ := hu
    subst e2'
    subst e1'
    obtain ⟨m0, m1, m2, m3, m4, m5, m6, m7, m8⟩ := at9 (cells_later q3 HBr.out (by have := HHW.out; omega))
    have HX := Lib.hid (names_at hx)
    clear q3 j3 a3 hx
    by_cases he : bn = x
    · have en : (bn == x) = true := by simpa using he
      have HP := Lib.hid (plc_first (by rw [← he]; exact HX.out) HK.out)
      clear he
      go_wp2
      go_ret2
      exact ⟨by rw [HP.out]; rfl, HB.out.trans (HBr.out.mono HB.out.size)⟩
    · have en : (bn == x) = false := by simpa using he
      have HE := Lib.hid he
      clear he
      go_wp2
      go_roundw
      case rel => exact ⟨k + 1, by omega, by go_num, Lib.hid (fun j hj e => by
        by_cases hjk : j < k
        · exact HK.out j hjk e
        · obtain rfl : j = k := by omega
          rw [HX.out] at e
          exact HE.out (by simpa using e)), HBr⟩
      case measure => simp [intOf]; omega
  · have HP := Lib.hid (plc_end (ns := names bl) (x := x) (fun j hj => HK.out j (by rw [names_len] at hj; omega)))
    go_wp2
    go_ret2
    exact ⟨by rw [HP.out]; rfl, HB.out.trans (HBr.out.mono HB.out.size)⟩
end Go.Proofs.YtdgmdpphimenjaaDoor.Sh8
