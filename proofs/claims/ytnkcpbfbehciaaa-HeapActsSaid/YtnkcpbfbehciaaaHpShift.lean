/-
  Layer 15: the statements' shifted and moved.
-/
import Derived.Test.YtnkcpbfbehciaaaHpAlk
import Derived.Test.YtnkcpbfbehciaaaHpStore
namespace Go.Proofs.Ytnkcpbfbehciaaa.Hp15
open Go.RowKit Api Mem

def ShP (h : Hp) (n : Int) (x : Vl) (w : World) (e : Ending) (w' : World) : Prop := ∃ y, e = .returned (vlA y) ∧ MovedV h n x y ∧ Below w.heap.size w w'
set_option maxRecDepth 100000 in
set_option maxHeartbeats 8000000 in
theorem shifted_any (lo hi : Nat) (w : World) (v : Value) (h : Hp) (hv : Obs lo hi w v h) (hh : hi ≤ w.heap.size) (x : Vl) (n : Int) (hn : 0 ≤ n) (hn2 : n ≤ 1000) (hl : h.length ≤ 1000) :
    Calls Try.prog 21 #[v, vlA x, i64 n] w (ShP h n x w) := by
  obtain ⟨A1, k1, rfl⟩ := Row.form hv
  obtain ⟨W, hW⟩ : ∃ W, (w.alloc (.cells #[str x.ty, i64 x.n] 25)).alloc (.cells #[str [], i64 0] 25) = W := ⟨_, rfl⟩
  have HBW := Lib.hid (show Below w.heap.size w W from hW ▸ (up15 w _).trans ((up15 _ _).mono (by simp)))
  have HO := Lib.hid (show Mem.Own W w.heap.size 25 [str x.ty, i64 x.n] from hW ▸ (Own.made w _ _).alloc _)
  have HR := Lib.hid (show Mem.Own W (w.heap.size + 1) 25 [str [], i64 0] from hW ▸ (show w.heap.size + 1 = (w.alloc (.cells #[str x.ty, i64 x.n] 25)).heap.size by simp) ▸ Own.made _ _ _)
  have HW := Lib.hid hW
  have QL := Lib.hid (rleads_any lo hi W _ h (Obs.move (Still.of_below (HBW.out.mono hh)) hv) x)
  clear hv hW
  by_cases hx : LeadsP h x
  · have HX := Lib.hid hx
    obtain ⟨ty, m⟩ := x
    obtain ⟨rfl, h2, h3⟩ := hx
    simp only at h2 h3
    go_enter Try.func21, Try.ntmps21
    go_wp2_with fail
    rw [show ({ data := #[] } : ByteArray) = ⟨([] : Wd).toArray⟩ from rfl, HW.out]
    refine (yesH QL.out HX.out).mono ?_
    rintro e w1 ⟨rfl, hb⟩
    have HB1 := Lib.hid (HBW.out.trans (hb.mono HBW.out.size))
    obtain ⟨ho1, p0, p1, p2, p3, p4⟩ := box2 HO.out hb
    obtain ⟨hr1, q0, q1, q2, q3, q4⟩ := box2 HR.out hb
    clear hb ho1 hr1
    go_wp2_with fail
    exact bodyPost_ret (v := vlA ⟨wRef, m + n⟩) (by rw [results_cell15 rfl]; go_simp) rfl ⟨⟨wRef, m + n⟩, rfl, .inl ⟨HX.out, rfl⟩, ((HB1.out.setCell (p := ⟨w.heap.size, 1, none⟩) (Nat.le_refl _) _).setCell (p := ⟨w.heap.size + 1, 0, none⟩) (Nat.le_succ _) _).setCell (p := ⟨w.heap.size + 1, 1, none⟩) (Nat.le_succ _) _⟩
  · have HX := Lib.hid hx
    clear hx
    go_enter Try.func21, Try.ntmps21
    go_wp2_with fail
    rw [show ({ data := #[] } : ByteArray) = ⟨([] : Wd).toArray⟩ from rfl, HW.out]
    refine (notH QL.out HX.out).mono ?_
    rintro e w1 ⟨rfl, hb⟩
    have HB1 := Lib.hid (HBW.out.trans (hb.mono HBW.out.size))
    obtain ⟨ho1, p0, p1, p2, p3, p4⟩ := box2 HO.out hb
    obtain ⟨hr1, q0, q1, q2, q3, q4⟩ := box2 HR.out hb
    clear hb ho1 hr1
    go_wp2_with fail
    exact bodyPost_ret (v := vlA x) (by rw [results_cell15 rfl]; go_simp) rfl ⟨x, rfl, .inr ⟨HX.out, rfl⟩, (HB1.out.setCell (p := ⟨w.heap.size + 1, 0, none⟩) (Nat.le_succ _) _).setCell (p := ⟨w.heap.size + 1, 1, none⟩) (Nat.le_succ _) _⟩
end Go.Proofs.Ytnkcpbfbehciaaa.Hp15
