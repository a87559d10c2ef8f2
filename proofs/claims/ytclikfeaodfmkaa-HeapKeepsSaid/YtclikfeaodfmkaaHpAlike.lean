/-
  Layer 15: package heap's Alike, walked.
-/
import Derived.Test.YtclikfeaodfmkaaHpFol
namespace Go.Proofs.Ytclikfeaodfmkaa.Hp15
open Go.RowKit Api Mem Go.Maps

theorem pm_made {w W : World} {v1 v2 : Value} (h : ((w.alloc (Obj.map #[] 0)).alloc (Obj.map #[] 0)).alloc (Obj.cells #[v1, v2, Value.map (some w.heap.size), Value.map (some (w.heap.size + 1)), Value.slice none 0 0] 49) = W) :
    PM W w.heap.size (w.heap.size + 1 + 1) v1 v2 (.slice none 0 0) w.heap.size (w.heap.size + 1) [] [] ∧ Below w.heap.size w W ∧ w.heap.size ≤ W.heap.size := by
  subst h
  have b1 := up15 w (Obj.map #[] 0)
  have b2 := up15 (w.alloc (Obj.map #[] 0)) (Obj.map #[] 0)
  have b3 := up15 ((w.alloc (Obj.map #[] 0)).alloc (Obj.map #[] 0)) (Obj.cells #[v1, v2, Value.map (some w.heap.size), Value.map (some (w.heap.size + 1)), Value.slice none 0 0] 49)
  have e1 : (w.alloc (Obj.map #[] 0)).heap.size = w.heap.size + 1 := by simp
  have e2 : ((w.alloc (Obj.map #[] 0)).alloc (Obj.map #[] 0)).heap.size = w.heap.size + 1 + 1 := by simp
  have hb := (b1.trans (b2.mono (by omega))).trans (b3.mono (by omega))
  refine ⟨⟨?_, ((MO.made w).below b2 (by rw [e1]; omega)).below b3 (by rw [e2]; omega), ?_, by omega, World.ownsRow_nil _ _ _ _, by omega, Nat.le_refl _, by omega⟩, hb, hb.size⟩
  · have := Own.made ((w.alloc (Obj.map #[] 0)).alloc (Obj.map #[] 0)) 49 [v1, v2, Value.map (some w.heap.size), Value.map (some (w.heap.size + 1)), Value.slice none 0 0]
    rw [e2] at this
    exact this
  · have := (MO.made (w.alloc (Obj.map #[] 0))).below b3 (by rw [e1, e2]; omega)
    rw [e1] at this
    exact this
set_option maxRecDepth 100000 in
set_option maxHeartbeats 8000000 in
theorem alike_any {h k : Hp} {lo hi : Nat} {w : World} {v1 v2 va vb : Value} {a b : List Vl} (h1 : Obs lo hi w v1 h) (ha : Vls lo hi w va a) (h2 : Obs lo hi w v2 k) (hb : Vls lo hi w vb b) (hh : hi ≤ w.heap.size) (hG1 : hpG h) (hG2 : hpG k) (hga : ∀ x ∈ a, vlG x) (hgb : ∀ x ∈ b, vlG x) (hT : h.length ≤ 1000) (hT2 : k.length ≤ 1000) :
    Calls Try.prog 13 #[v1, va, v2, vb] w (BPH (AlikeP h a k b) w) := by
  obtain ⟨A1, c1, rfl⟩ := Row.form h1
  obtain ⟨A2, c2, rfl⟩ := Row.form h2
  have H1 := Lib.hid h1
  have H2 := Lib.hid h2
  have HA := Lib.hid ha
  have HB := Lib.hid hb
  have HG1 := Lib.hid hG1
  have HG2 := Lib.hid hG2
  have HGA := Lib.hid hga
  have HGB := Lib.hid hgb
  have hmm := @run_makeMap Try.prog
  clear h1 h2 ha hb hG1 hG2 hga hgb
  go_enter Try.func13, Try.ntmps13
  go_wp2_with fail
  obtain ⟨W, hW⟩ : ∃ W, ((w.alloc (Obj.map #[] 0)).alloc (Obj.map #[] 0)).alloc (Obj.cells #[Value.slice A1 h.length c1, Value.slice A2 k.length c2, Value.map (some w.heap.size), Value.map (some (w.heap.size + 1)), Value.slice none 0 0] 49) = W := ⟨_, rfl⟩
  obtain ⟨hPM, hBW, hWS⟩ := pm_made hW
  rw [hW]
  have HPM := Lib.hid hPM
  have HBW := Lib.hid hBW
  have HWS := Lib.hid hWS
  clear hPM hBW hWS hW hmm
  refine (list_any (h := h) (k := k) (T := []) (q := []) (lo := lo) (hi := hi) HPM.out (Base.nil h k) (Vls.move (Still.of_below (HBW.out.mono hh)) HA.out) (Vls.move (Still.of_below (HBW.out.mono hh)) HB.out) HGA.out HGB.out (by simp) hT HWS.out hh (Obs.move (Still.of_below (HBW.out.mono hh)) H1.out) (Obs.move (Still.of_below (HBW.out.mono hh)) H2.out)).mono ?_
  rintro e w2 ⟨b2, rfl, hy2, hn2, hb2⟩
  have HB2 := Lib.hid (HBW.out.trans hb2)
  have HY2 := Lib.hid hy2
  have HN2 := Lib.hid hn2
  clear hy2 hn2 hb2
  cases b2 with
  | false =>
    have HF := Lib.hid (show ¬ AlikeP h a k b from fun ⟨P, p1, _, p3⟩ => HN2.out rfl P p1 (fun n m hm => by cases hm) p3)
    go_wp2_with fail
    go_ret
    exact ⟨false, rfl, ⟨fun h => (by cases h), fun h => absurd h HF.out⟩, HB2.out⟩
  | true =>
    obtain ⟨T, q, vr, hs, hm⟩ := HY2.out rfl
    have HS := Lib.hid hs
    have HM := Lib.hid hm
    have hql : q.length ≤ T.length := by have := hs.len; simp at this; omega
    clear hs hm
    go_wp2_with fail
    refine (follow_any (h := h) (k := k) (lo := lo) (hi := hi) HM.out (Full.first HS.out) hql HG1.out HG2.out hT hT2 HB2.out.size hh (Obs.move (Still.of_below (HB2.out.mono hh)) H1.out) (Obs.move (Still.of_below (HB2.out.mono hh)) H2.out)).mono ?_
    rintro e w3 ⟨b3, rfl, hy3, hn3, hb3⟩
    have HB3 := Lib.hid (HB2.out.trans hb3)
    have HY3 := Lib.hid hy3
    have HN3 := Lib.hid hn3
    clear hy3 hn3 hb3
    cases b3 with
    | true =>
      have HF := Lib.hid (show AlikeP h a k b from by
        obtain ⟨P, p1, p2, p3⟩ := HY3.out rfl
        exact ⟨P, p1, p2, HS.out.holds.mono p3⟩)
      go_wp2_with fail
      go_ret
      exact ⟨true, rfl, ⟨fun _ => HF.out, fun _ => rfl⟩, HB3.out⟩
    | false =>
      have HF := Lib.hid (show ¬ AlikeP h a k b from fun ⟨P, p1, p2, p3⟩ => HN3.out rfl P p1 p2 (HS.out.forced P p1 (fun n m hm => by cases hm) p3))
      go_wp2_with fail
      go_ret
      exact ⟨false, rfl, ⟨fun h => (by cases h), fun h => absurd h HF.out⟩, HB3.out⟩
end Go.Proofs.Ytclikfeaodfmkaa.Hp15
