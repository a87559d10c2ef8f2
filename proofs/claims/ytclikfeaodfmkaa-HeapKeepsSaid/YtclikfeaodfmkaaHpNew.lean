/-
  Layer 15: heaps made anew.
-/
import Derived.Test.YtclikfeaodfmkaaHpFind
import Derived.Test.YtclikfeaodfmkaaHpOwn
namespace Go.Proofs.Ytclikfeaodfmkaa.Hp15
open Go.RowKit Api Mem

/-- the first k of them, and nothing behind. -/
def upTo {α : Type} (l : List α) (z : α) (k : Nat) : List α := l.take k ++ List.replicate (l.length - k) z
theorem upTo_len {α : Type} {l : List α} {z : α} {k : Nat} (hk : k ≤ l.length) : (upTo l z k).length = l.length := by
  unfold upTo; rw [List.length_append, List.length_take, List.length_replicate]; omega
theorem upTo_zero {α : Type} (l : List α) (z : α) : upTo l z 0 = List.replicate l.length z := by unfold upTo; simp
theorem upTo_all {α : Type} (l : List α) (z : α) : upTo l z l.length = l := by unfold upTo; simp
theorem upTo_set {α : Type} {l : List α} {z x : α} {k : Nat} (hx : l[k]? = some x) : (upTo l z k).set k x = upTo l z (k + 1) := by
  obtain ⟨hk, e⟩ := List.getElem?_eq_some_iff.1 hx
  unfold upTo
  rw [List.set_append, if_neg (by rw [List.length_take]; omega), List.length_take, show k - min k l.length = 0 by omega, show l.length - k = (l.length - (k + 1)) + 1 by omega, List.replicate_succ, List.set_cons_zero, List.take_succ_eq_append_getElem hk, e, List.append_assoc]
  rfl
def NewOP (x : Ob) (w : World) (e : Ending) (w' : World) : Prop := ∃ u, e = .returned (.agg #[str x.cls, u]) ∧ VOwn w' w.heap.size u x.vals ∧ Below w.heap.size w w'
set_option maxRecDepth 100000 in
set_option maxHeartbeats 8000000 in
theorem anewObject_any (lo hi : Nat) (w : World) (u : Value) (x : Ob) (hu : Vls lo hi w u x.vals) (hh : hi ≤ w.heap.size) (hG : obG x) (hn : x.vals.length ≤ 1099511627776) :
    Calls Try.prog 17 #[.agg #[str x.cls, u]] w (NewOP x w) := by
  obtain ⟨cls, vals⟩ := x
  obtain ⟨A1, k1, rfl⟩ := Row.form hu
  have hmm := fun (w : World) => run_two (P := Try.prog) (t := 23) Try.underlying23 info_val rfl (by decide) vals.length hn w
  obtain ⟨W, hW⟩ : ∃ W, (w.alloc (.cells #[str cls, .slice A1 vals.length k1] 33)).alloc (.cells #[str [], .slice none 0 0] 33) = W := ⟨_, rfl⟩
  have HBW := Lib.hid (show Below w.heap.size w W from hW ▸ (up15 w _).trans ((up15 _ _).mono (by simp)))
  have HO := Lib.hid (show Mem.Own W w.heap.size 33 [str cls, .slice A1 vals.length k1] from hW ▸ (Own.made w _ _).alloc _)
  have HR := Lib.hid (show Mem.Own W (w.heap.size + 1) 33 [str [], .slice none 0 0] from hW ▸ (show w.heap.size + 1 = (w.alloc (.cells #[str cls, .slice A1 vals.length k1] 33)).heap.size by simp) ▸ Own.made _ _ _)
  have HWS : Hid (W.heap.size = w.heap.size + 2) := Lib.hid (by rw [← hW]; simp)
  have hb : w.heap.size + 1 + 1 = W.heap.size := by rw [← hW]; simp
  obtain ⟨W2, hW2⟩ : ∃ W2, W.alloc (.cells (madeCells #[str [], i64 0] (vals.length * 2)) 25) = W2 := ⟨_, rfl⟩
  have HV0 := Lib.hid (vown_made vals.length (w.heap.size + 1 + 1) hW2 hb hn)
  have HB2 := Lib.hid (show Below W.heap.size W W2 from hW2 ▸ up15 W _)
  have HU := Lib.hid hu
  have HW := Lib.hid hW
  have HW2 := Lib.hid hW2
  have HSZ := Lib.hid hb
  have HGG := Lib.hid hG
  have hla := row_len hu
  clear hu hW hW2 hb hG
  go_enter Try.func17, Try.ntmps17
  go_wp2_with fail
  rw [show ({ data := #[] } : ByteArray) = ⟨([] : Wd).toArray⟩ from rfl, HW.out, HW2.out]
  go_loopw [12] (fun i wr => ∃ k : Nat, k ≤ vals.length ∧ i = .int .i64 k ∧ Hid (VOwn wr (w.heap.size + 1 + 1) (.slice (some ⟨w.heap.size + 1 + 1, 0, none⟩) vals.length vals.length) (upTo vals ⟨[], 0⟩ k)) ∧ Hid (Below W.heap.size W wr)) (fun i _ => vals.length - (intOf i).toNat)
  case atStart => exact ⟨0, Nat.zero_le _, rfl, Lib.hid (by rw [upTo_zero]; exact HV0.out), HB2⟩
  case round =>
  obtain ⟨k, hk, rfl, HV, HBr⟩ := hrel
  obtain ⟨ho, p0, p1, _, _, _⟩ := box2 HO.out HBr.out
  clear ho
  by_cases hlt : k < vals.length
  · obtain ⟨x, hx⟩ : ∃ x, vals[k]? = some x := ⟨_, List.getElem?_eq_getElem hlt⟩
    obtain ⟨b1, o1, rfl, _⟩ := addr2 HU.out (by omega)
    have HBw := Lib.hid (HBW.out.trans (HBr.out.mono HBW.out.size))
    obtain ⟨m1, m2⟩ := vl_at HU.out hx (HBw.out.mono hh)
    have HX := Lib.hid hx
    clear hx
    go_wp2_with fail
    refine (anewVal_any wr x (HGG.out.2 x (List.mem_of_getElem? HX.out))).mono ?_
    rintro e w3 ⟨rfl, hb3⟩
    have hV3 := HV.out.below hb3
    obtain ⟨g, c, e3, h1, h2, ⟨y0, f0⟩, ⟨y1, f1⟩, f2, f3, f4⟩ := hV3.put (i := k) (by rw [upTo_len hk]; exact hlt)
    rw [upTo_len hk] at e3
    injection e3 with e4 e5 e6
    injection e4 with e7
    injection e7 with e8
    subst e8
    subst e6
    have HV4 := Lib.hid (f4 x)
    rw [upTo_set HX.out] at HV4
    have HB3 := Lib.hid (HBr.out.trans (hb3.mono HBr.out.size))
    clear hb3 hV3 f4 e5 h1
    go_wp2_with fail
    go_roundw
    case rel => exact ⟨k + 1, by omega, by go_num, HV4, Lib.hid ((HB3.out.setCell (p := ⟨w.heap.size + 1 + 1, k * 2, none⟩) (Nat.le_of_eq HSZ.out.symm) _).setCell (p := ⟨w.heap.size + 1 + 1, k * 2 + 1, none⟩) (Nat.le_of_eq HSZ.out.symm) _)⟩
    case measure => simp [intOf]; omega
  · have hke : k = vals.length := by omega
    rw [hke, upTo_all] at HV
    clear hke
    go_wp2_with fail
    refine (clone_any ⟨cls.toArray⟩ wr (by have h1 : cls.length ≤ 140737488351232 := HGG.out.1; simp [ByteArray.size]; omega)).mono ?_
    rintro e w3 ⟨rfl, hb3⟩
    have HV3 := Lib.hid (HV.out.below hb3)
    have HB3 := Lib.hid (HBr.out.trans (hb3.mono HBr.out.size))
    obtain ⟨hr, r0, r1, t0, t1, tl⟩ := box2 HR.out HB3.out
    clear hb3 hr
    go_wp2_with fail
    refine bodyPost_ret (v := .agg #[str cls, .slice (some ⟨w.heap.size + 1 + 1, 0, none⟩) vals.length vals.length]) (by rw [results_cell15 rfl]; go_simp) rfl ⟨_, rfl, ?_, (((HBW.out.trans (HB3.out.mono HBW.out.size)).setCell (p := ⟨w.heap.size + 1, 0, none⟩) (Nat.le_succ _) _).setCell (p := ⟨w.heap.size + 1, 1, none⟩) (Nat.le_succ _) _)⟩
    exact (((HV3.out.aside ⟨w.heap.size + 1, 0, none⟩ (Nat.lt_succ_self _) _).aside ⟨w.heap.size + 1, 1, none⟩ (Nat.lt_succ_self _) _).lower (Nat.le_add_right w.heap.size 2))
def NewHP (H : Hp) (w : World) (e : Ending) (w' : World) : Prop := ∃ v, e = .returned v ∧ HOwn w' w.heap.size v H ∧ Below w.heap.size w w'
/-- short enough to be laid anew. -/
def LenH (H : Hp) : Prop := H.length ≤ 1099511627776 ∧ ∀ x ∈ H, x.vals.length ≤ 1099511627776
set_option maxRecDepth 100000 in
set_option maxHeartbeats 8000000 in
theorem anew_any (lo hi : Nat) (w : World) (v : Value) (H : Hp) (hv : Obs lo hi w v H) (hh : hi ≤ w.heap.size) (hG : hpG H) (hL : LenH H) :
    Calls Try.prog 16 #[v] w (NewHP H w) := by
  obtain ⟨A1, k1, rfl⟩ := Row.form hv
  have hmm := fun (w : World) => run_two (P := Try.prog) (t := 22) Try.underlying22 info_obj rfl (by decide) H.length hL.1 w
  obtain ⟨W2, hW2⟩ : ∃ W2, w.alloc (.cells (madeCells #[str [], .slice none 0 0] (H.length * 2)) 33) = W2 := ⟨_, rfl⟩
  have HV0 := Lib.hid (hown_made H.length w.heap.size hW2 rfl hL.1)
  have HB2 := Lib.hid (show Below w.heap.size w W2 from hW2 ▸ up15 w _)
  have HU := Lib.hid hv
  have HW2 := Lib.hid hW2
  have HGG := Lib.hid hG
  have HLL := Lib.hid hL
  have hla := row_len hv
  clear hv hW2 hG hL
  go_enter Try.func16, Try.ntmps16
  go_wp2_with fail
  rw [HW2.out]
  go_loopw [10] (fun i wr => ∃ k : Nat, k ≤ H.length ∧ i = .int .i64 k ∧ Hid (HOwn wr w.heap.size (.slice (some ⟨w.heap.size, 0, none⟩) H.length H.length) (upTo H ⟨[], []⟩ k)) ∧ Hid (Below w.heap.size w wr)) (fun i _ => H.length - (intOf i).toNat)
  case atStart => exact ⟨0, Nat.zero_le _, rfl, Lib.hid (by rw [upTo_zero]; exact HV0.out), HB2⟩
  case round =>
  obtain ⟨k, hk, rfl, HV, HBr⟩ := hrel
  by_cases hlt : k < H.length
  · obtain ⟨x, hx⟩ : ∃ x, H[k]? = some x := ⟨_, List.getElem?_eq_getElem hlt⟩
    obtain ⟨b1, o1, rfl, _⟩ := addr2 HU.out (by omega)
    obtain ⟨A3, k3, hvx, hc⟩ := ob_at HU.out hx
    obtain ⟨m1, m2⟩ := hc wr (HBr.out.mono hh)
    have HX := Lib.hid hx
    have HVX := Lib.hid hvx
    clear hx hc hvx
    go_wp2_with fail
    refine (anewObject_any lo hi wr _ x (Vls.move (Still.of_below (HBr.out.mono hh)) HVX.out) (Nat.le_trans hh HBr.out.size) (HGG.out x (List.mem_of_getElem? HX.out)) (HLL.out.2 x (List.mem_of_getElem? HX.out))).mono ?_
    rintro e w3 ⟨u, rfl, hu, hb3⟩
    obtain ⟨Au, cu, rfl⟩ := hu.form
    obtain ⟨g, c, e3, h1, h2, ⟨y0, f0⟩, ⟨y1, f1⟩, f2, f3, f4⟩ := HV.out.put (i := k) (by rw [upTo_len hk]; exact hlt) HBr.out.size
    rw [upTo_len hk] at e3
    injection e3 with e4 e5 e6
    injection e4 with e7
    injection e7 with e8
    subst e8
    subst e6
    have HV4 := Lib.hid (f4 w3 _ x hb3 hu)
    rw [upTo_set HX.out] at HV4
    have HB3 := Lib.hid (HBr.out.trans (hb3.mono HBr.out.size))
    have n0 := (hb3.cell (p := ⟨w.heap.size, k * 2, none⟩) h2).trans f0
    have n1 := (hb3.cell (p := ⟨w.heap.size, k * 2 + 1, none⟩) h2).trans f1
    have n2 := (hb3.frozen (p := ⟨w.heap.size, k * 2, none⟩) h2).trans f2
    have n3 := (hb3.frozen (p := ⟨w.heap.size, k * 2 + 1, none⟩) h2).trans f3
    have n4 := Nat.lt_of_lt_of_le h2 hb3.size
    clear hb3 f0 f1 f2 f3 f4 e5 h1 h2 hu
    go_wp2_with fail
    go_roundw
    case rel => exact ⟨k + 1, by omega, by go_num, HV4, Lib.hid ((HB3.out.setCell (p := ⟨w.heap.size, k * 2, none⟩) (Nat.le_refl _) _).setCell (p := ⟨w.heap.size, k * 2 + 1, none⟩) (Nat.le_refl _) _)⟩
    case measure => simp [intOf]; omega
  · have hke : k = H.length := by omega
    rw [hke, upTo_all] at HV
    clear hke
    go_wp2_with fail
    go_ret
    exact ⟨_, rfl, HV.out, HBr.out⟩
end Go.Proofs.Ytclikfeaodfmkaa.Hp15
