/-
  Package show: all, of each type.
-/
import Derived.Test.YtdgmdpphimenjaaDoorOfs
import Derived.Lib.Hide
namespace Go.Proofs.YtdgmdpphimenjaaDoor.Sh6
open Go.RowKit Api Syn WordM Mem Rd5

theorem allR_no {α : Type} {m : Nat} {f : α → Bool} {l : List α} {k : Nat} {x : α} (hx : l[k]? = some x) (h : f x = false) : allR m f l = false := by
  unfold allR
  have : l.all f = false := by rw [List.all_eq_false]; exact ⟨x, List.mem_of_getElem? hx, by simp [h]⟩
  rw [this]; simp
theorem all_next {α : Type} {f : α → Bool} {l : List α} {k : Nat} {x : α} (hx : l[k]? = some x) (h : f x = true) (hk : (l.take k).all f = true) : (l.take (k + 1)).all f = true := by
  obtain ⟨hk', e⟩ := List.getElem?_eq_some_iff.1 hx
  rw [List.take_succ_eq_append_getElem hk', List.all_append, hk, e]
  simp [h]
abbrev fv (f : Nat) : Value := .func (.func f) #[] #[]
/-- A function of one argument that tells of it what R does, and makes at most new memory. -/
def Tells {α : Type} (f : Nat) (E : World → List Value → α → Prop) (V : List Value → Value) (R : α → Bool) (w0 : World) (l : List α) : Prop :=
  (∀ args w, (callFunc f args).run Tryd.prog w = .ok (.enter f args) w) ∧ ∀ (w : World) (cs : List Value) (x : α), Below w0.heap.size w0 w → x ∈ l → E w cs x → Calls Tryd.prog f #[V cs] w fun e w' => e = .returned (.bool (R x)) ∧ Below w.heap.size w w'

set_option maxRecDepth 100000 in
set_option maxHeartbeats 8000000 in
theorem allClass_any (lo hi : Nat) (w : World) (v : Value) (l : List Class) (m : Nat) (f : Nat) (R : Class → Bool) (h : Classes lo hi w v l) (hh : hi ≤ w.heap.size) (hf : Tells f (fun w cs x => ClassC lo hi w cs x) (fun cs => .agg cs.toArray) R w l) (hm : m ≤ 100000) :
    Calls Tryd.prog 24 #[v, .int .i64 (m : Int), fv f] w fun e w' => e = .returned (.bool (allR m R l)) ∧ Below w.heap.size w w' := by
  obtain ⟨A, n, cap, b, off, rfl, hn, hm2, ha, hc⟩ := h
  obtain ⟨r, hr⟩ : ∃ r, allR m R l = r := ⟨_, rfl⟩
  rw [hr]
  by_cases hlen : m < n
  · obtain rfl : r = false := by rw [← hr]; unfold allR; rw [decide_eq_false (by omega)]; rfl
    have e1 : decide ((m : Int) < (n : Int)) = true := decide_eq_true (by omega)
    clear hc ha hf hr hn
    go_enter Tryd.func24, Tryd.ntmps24
    go_wp2
    go_ret
    exact ⟨rfl, Below.refl _ _⟩
  have e1 : decide ((m : Int) < (n : Int)) = false := decide_eq_false (by omega)
  have HF := Lib.hid hf
  have HE := hf.1
  have HC := Lib.hid hc
  have HA := Lib.hid ha
  have HN := Lib.hid hn
  have HR := Lib.hid hr
  clear hc ha hf hr hn
  go_enter Tryd.func24, Tryd.ntmps24
  go_wp2_with fail
  go_loopw [15] (fun i wr => ∃ k : Nat, k ≤ n ∧ i = .int .i64 k ∧ Hid ((l.take k).all R = true) ∧ Hid (Below w.heap.size w wr)) (fun i _ => n - (intOf i).toNat)
  case atStart => exact ⟨0, Nat.zero_le _, rfl, Lib.hid rfl, Lib.hid (Below.refl _ _)⟩
  case round =>
  obtain ⟨k, hk, rfl, HK, HBr⟩ := hrel
  by_cases hlt : k < n
  · obtain ⟨x, hx⟩ : ∃ x, l[k]? = some x := ⟨_, List.getElem?_eq_getElem (by have := HN.out; omega)⟩
    obtain ⟨rfl, _, hb1⟩ := HA.out (by omega)
    obtain ⟨cs, _, q1, hu⟩ := HC.out k x hx
    have hb1 : b < w.heap.size := by omega
    have qf := fun (w' : World) (hb : Below wr.heap.size wr w') => HF.out.2 w' cs x (HBr.out.trans (hb.mono HBr.out.size)) (List.mem_of_getElem? hx) (ClassC.move (Still.of_below ((HBr.out.trans (hb.mono HBr.out.size)).mono hh)) hu)
    obtain ⟨y1, rfl, g1⟩ := hu; obtain ⟨B1, k1, rfl⟩ := g1.form
    obtain ⟨n0, n1⟩ := at2 (cells_later q1 HBr.out hb1)
    obtain ⟨t, ht⟩ : ∃ t, R x = t := ⟨_, rfl⟩
    rw [ht] at qf
    have QF := Lib.hid qf
    have HX := Lib.hid hx
    have HT := Lib.hid ht
    clear q1 hx qf ht
    cases t with
    | true =>
      go_wp2_with fail
      refine (QF.out _ ((Below.refl _ _).alloc (Nat.le_refl _) _)).mono ?_; rintro e w5 ⟨rfl, hb5⟩
      have HB5 := Lib.hid (HBr.out.trans ((z_below hb5).mono HBr.out.size))
      clear hb5
      go_wp2
      go_roundw
      case rel => exact ⟨k + 1, by omega, by go_num, Lib.hid (all_next HX.out HT.out HK.out), HB5⟩
      case measure => simp [intOf]; omega
    | false =>
      obtain rfl : r = false := by rw [← HR.out]; exact allR_no HX.out HT.out
      go_wp2_with fail
      refine (QF.out _ ((Below.refl _ _).alloc (Nat.le_refl _) _)).mono ?_; rintro e w5 ⟨rfl, hb5⟩
      have HB5 := Lib.hid (HBr.out.trans ((z_below hb5).mono HBr.out.size))
      clear hb5
      go_wp2
      go_ret
      exact ⟨rfl, HB5.out⟩
  · obtain rfl : r = true := by
      have h1 := HK.out
      rw [List.take_of_length_le (by have := HN.out; omega)] at h1
      rw [← HR.out]
      unfold allR
      rw [h1, decide_eq_true (by have := HN.out; omega)]; rfl
    go_wp2
    go_ret
    exact ⟨rfl, HBr.out⟩

set_option maxRecDepth 100000 in
set_option maxHeartbeats 8000000 in
theorem allVar_any (lo hi : Nat) (w : World) (v : Value) (l : List Var) (m : Nat) (f : Nat) (R : Var → Bool) (h : Vars lo hi w v l) (hh : hi ≤ w.heap.size) (hf : Tells f (fun _ cs x => cs = varC x) (fun cs => .agg cs.toArray) R w l) (hm : m ≤ 100000) :
    Calls Tryd.prog 26 #[v, .int .i64 (m : Int), fv f] w fun e w' => e = .returned (.bool (allR m R l)) ∧ Below w.heap.size w w' := by
  obtain ⟨A, n, cap, b, off, rfl, hn, hm2, ha, hc⟩ := h
  obtain ⟨r, hr⟩ : ∃ r, allR m R l = r := ⟨_, rfl⟩
  rw [hr]
  by_cases hlen : m < n
  · obtain rfl : r = false := by rw [← hr]; unfold allR; rw [decide_eq_false (by omega)]; rfl
    have e1 : decide ((m : Int) < (n : Int)) = true := decide_eq_true (by omega)
    clear hc ha hf hr hn
    go_enter Tryd.func26, Tryd.ntmps26
    go_wp2
    go_ret
    exact ⟨rfl, Below.refl _ _⟩
  have e1 : decide ((m : Int) < (n : Int)) = false := decide_eq_false (by omega)
  have HF := Lib.hid hf
  have HE := hf.1
  have HC := Lib.hid hc
  have HA := Lib.hid ha
  have HN := Lib.hid hn
  have HR := Lib.hid hr
  clear hc ha hf hr hn
  go_enter Tryd.func26, Tryd.ntmps26
  go_wp2_with fail
  go_loopw [15] (fun i wr => ∃ k : Nat, k ≤ n ∧ i = .int .i64 k ∧ Hid ((l.take k).all R = true) ∧ Hid (Below w.heap.size w wr)) (fun i _ => n - (intOf i).toNat)
  case atStart => exact ⟨0, Nat.zero_le _, rfl, Lib.hid rfl, Lib.hid (Below.refl _ _)⟩
  case round =>
  obtain ⟨k, hk, rfl, HK, HBr⟩ := hrel
  by_cases hlt : k < n
  · obtain ⟨x, hx⟩ : ∃ x, l[k]? = some x := ⟨_, List.getElem?_eq_getElem (by have := HN.out; omega)⟩
    obtain ⟨rfl, _, hb1⟩ := HA.out (by omega)
    obtain ⟨cs, _, q1, hu⟩ := HC.out k x hx
    have hb1 : b < w.heap.size := by omega
    have qf := fun (w' : World) (hb : Below wr.heap.size wr w') => HF.out.2 w' cs x (HBr.out.trans (hb.mono HBr.out.size)) (List.mem_of_getElem? hx) (hu)
    subst hu
    obtain ⟨n0, n1⟩ := at2 (cells_later q1 HBr.out hb1)
    obtain ⟨t, ht⟩ : ∃ t, R x = t := ⟨_, rfl⟩
    rw [ht] at qf
    have QF := Lib.hid qf
    have HX := Lib.hid hx
    have HT := Lib.hid ht
    clear q1 hx qf ht
    cases t with
    | true =>
      go_wp2_with fail
      refine (QF.out _ ((Below.refl _ _).alloc (Nat.le_refl _) _)).mono ?_; rintro e w5 ⟨rfl, hb5⟩
      have HB5 := Lib.hid (HBr.out.trans ((z_below hb5).mono HBr.out.size))
      clear hb5
      go_wp2
      go_roundw
      case rel => exact ⟨k + 1, by omega, by go_num, Lib.hid (all_next HX.out HT.out HK.out), HB5⟩
      case measure => simp [intOf]; omega
    | false =>
      obtain rfl : r = false := by rw [← HR.out]; exact allR_no HX.out HT.out
      go_wp2_with fail
      refine (QF.out _ ((Below.refl _ _).alloc (Nat.le_refl _) _)).mono ?_; rintro e w5 ⟨rfl, hb5⟩
      have HB5 := Lib.hid (HBr.out.trans ((z_below hb5).mono HBr.out.size))
      clear hb5
      go_wp2
      go_ret
      exact ⟨rfl, HB5.out⟩
  · obtain rfl : r = true := by
      have h1 := HK.out
      rw [List.take_of_length_le (by have := HN.out; omega)] at h1
      rw [← HR.out]
      unfold allR
      rw [h1, decide_eq_true (by have := HN.out; omega)]; rfl
    go_wp2
    go_ret
    exact ⟨rfl, HBr.out⟩

set_option maxRecDepth 100000 in
set_option maxHeartbeats 8000000 in
theorem allExtern_any (lo hi : Nat) (w : World) (v : Value) (l : List Extern) (m : Nat) (f : Nat) (R : Extern → Bool) (h : Externs lo hi w v l) (hh : hi ≤ w.heap.size) (hf : Tells f (fun _ cs x => cs = externC x) (fun cs => .agg cs.toArray) R w l) (hm : m ≤ 100000) :
    Calls Tryd.prog 28 #[v, .int .i64 (m : Int), fv f] w fun e w' => e = .returned (.bool (allR m R l)) ∧ Below w.heap.size w w' := by
  obtain ⟨A, n, cap, b, off, rfl, hn, hm2, ha, hc⟩ := h
  obtain ⟨r, hr⟩ : ∃ r, allR m R l = r := ⟨_, rfl⟩
  rw [hr]
  by_cases hlen : m < n
  · obtain rfl : r = false := by rw [← hr]; unfold allR; rw [decide_eq_false (by omega)]; rfl
    have e1 : decide ((m : Int) < (n : Int)) = true := decide_eq_true (by omega)
    clear hc ha hf hr hn
    go_enter Tryd.func28, Tryd.ntmps28
    go_wp2
    go_ret
    exact ⟨rfl, Below.refl _ _⟩
  have e1 : decide ((m : Int) < (n : Int)) = false := decide_eq_false (by omega)
  have HF := Lib.hid hf
  have HE := hf.1
  have HC := Lib.hid hc
  have HA := Lib.hid ha
  have HN := Lib.hid hn
  have HR := Lib.hid hr
  clear hc ha hf hr hn
  go_enter Tryd.func28, Tryd.ntmps28
  go_wp2_with fail
  go_loopw [15] (fun i wr => ∃ k : Nat, k ≤ n ∧ i = .int .i64 k ∧ Hid ((l.take k).all R = true) ∧ Hid (Below w.heap.size w wr)) (fun i _ => n - (intOf i).toNat)
  case atStart => exact ⟨0, Nat.zero_le _, rfl, Lib.hid rfl, Lib.hid (Below.refl _ _)⟩
  case round =>
  obtain ⟨k, hk, rfl, HK, HBr⟩ := hrel
  by_cases hlt : k < n
  · obtain ⟨x, hx⟩ : ∃ x, l[k]? = some x := ⟨_, List.getElem?_eq_getElem (by have := HN.out; omega)⟩
    obtain ⟨rfl, _, hb1⟩ := HA.out (by omega)
    obtain ⟨cs, _, q1, hu⟩ := HC.out k x hx
    have hb1 : b < w.heap.size := by omega
    have qf := fun (w' : World) (hb : Below wr.heap.size wr w') => HF.out.2 w' cs x (HBr.out.trans (hb.mono HBr.out.size)) (List.mem_of_getElem? hx) (hu)
    subst hu
    obtain ⟨n0, n1⟩ := at2 (cells_later q1 HBr.out hb1)
    obtain ⟨t, ht⟩ : ∃ t, R x = t := ⟨_, rfl⟩
    rw [ht] at qf
    have QF := Lib.hid qf
    have HX := Lib.hid hx
    have HT := Lib.hid ht
    clear q1 hx qf ht
    cases t with
    | true =>
      go_wp2_with fail
      refine (QF.out _ ((Below.refl _ _).alloc (Nat.le_refl _) _)).mono ?_; rintro e w5 ⟨rfl, hb5⟩
      have HB5 := Lib.hid (HBr.out.trans ((z_below hb5).mono HBr.out.size))
      clear hb5
      go_wp2
      go_roundw
      case rel => exact ⟨k + 1, by omega, by go_num, Lib.hid (all_next HX.out HT.out HK.out), HB5⟩
      case measure => simp [intOf]; omega
    | false =>
      obtain rfl : r = false := by rw [← HR.out]; exact allR_no HX.out HT.out
      go_wp2_with fail
      refine (QF.out _ ((Below.refl _ _).alloc (Nat.le_refl _) _)).mono ?_; rintro e w5 ⟨rfl, hb5⟩
      have HB5 := Lib.hid (HBr.out.trans ((z_below hb5).mono HBr.out.size))
      clear hb5
      go_wp2
      go_ret
      exact ⟨rfl, HB5.out⟩
  · obtain rfl : r = true := by
      have h1 := HK.out
      rw [List.take_of_length_le (by have := HN.out; omega)] at h1
      rw [← HR.out]
      unfold allR
      rw [h1, decide_eq_true (by have := HN.out; omega)]; rfl
    go_wp2
    go_ret
    exact ⟨rfl, HBr.out⟩

set_option maxRecDepth 100000 in
set_option maxHeartbeats 8000000 in
theorem allFunc_any (lo hi : Nat) (w : World) (v : Value) (l : List Api.Func) (m : Nat) (f : Nat) (R : Api.Func → Bool) (h : Funcs lo hi w v l) (hh : hi ≤ w.heap.size) (hf : Tells f (fun w cs x => FuncC lo hi w cs x) (fun cs => .agg cs.toArray) R w l) (hm : m ≤ 100000) :
    Calls Tryd.prog 30 #[v, .int .i64 (m : Int), fv f] w fun e w' => e = .returned (.bool (allR m R l)) ∧ Below w.heap.size w w' := by
  obtain ⟨A, n, cap, b, off, rfl, hn, hm2, ha, hc⟩ := h
  obtain ⟨r, hr⟩ : ∃ r, allR m R l = r := ⟨_, rfl⟩
  rw [hr]
  by_cases hlen : m < n
  · obtain rfl : r = false := by rw [← hr]; unfold allR; rw [decide_eq_false (by omega)]; rfl
    have e1 : decide ((m : Int) < (n : Int)) = true := decide_eq_true (by omega)
    clear hc ha hf hr hn
    go_enter Tryd.func30, Tryd.ntmps30
    go_wp2
    go_ret
    exact ⟨rfl, Below.refl _ _⟩
  have e1 : decide ((m : Int) < (n : Int)) = false := decide_eq_false (by omega)
  have HF := Lib.hid hf
  have HE := hf.1
  have HC := Lib.hid hc
  have HA := Lib.hid ha
  have HN := Lib.hid hn
  have HR := Lib.hid hr
  clear hc ha hf hr hn
  go_enter Tryd.func30, Tryd.ntmps30
  go_wp2_with fail
  go_loopw [15] (fun i wr => ∃ k : Nat, k ≤ n ∧ i = .int .i64 k ∧ Hid ((l.take k).all R = true) ∧ Hid (Below w.heap.size w wr)) (fun i _ => n - (intOf i).toNat)
  case atStart => exact ⟨0, Nat.zero_le _, rfl, Lib.hid rfl, Lib.hid (Below.refl _ _)⟩
  case round =>
  obtain ⟨k, hk, rfl, HK, HBr⟩ := hrel
  by_cases hlt : k < n
  · obtain ⟨x, hx⟩ : ∃ x, l[k]? = some x := ⟨_, List.getElem?_eq_getElem (by have := HN.out; omega)⟩
    obtain ⟨rfl, _, hb1⟩ := HA.out (by omega)
    obtain ⟨cs, _, q1, hu⟩ := HC.out k x hx
    have hb1 : b < w.heap.size := by omega
    have qf := fun (w' : World) (hb : Below wr.heap.size wr w') => HF.out.2 w' cs x (HBr.out.trans (hb.mono HBr.out.size)) (List.mem_of_getElem? hx) (FuncC.move (Still.of_below ((HBr.out.trans (hb.mono HBr.out.size)).mono hh)) hu)
    obtain ⟨y1, y2, y3, rfl, g1, g2, g3⟩ := hu; obtain ⟨B1, k1, rfl⟩ := g1.form; obtain ⟨B2, k2, rfl⟩ := g2.form; obtain ⟨B3, k3, rfl⟩ := g3.form
    obtain ⟨n0, n1, n2, n3, n4⟩ := at5 (cells_later q1 HBr.out hb1)
    obtain ⟨t, ht⟩ : ∃ t, R x = t := ⟨_, rfl⟩
    rw [ht] at qf
    have QF := Lib.hid qf
    have HX := Lib.hid hx
    have HT := Lib.hid ht
    clear q1 hx qf ht
    cases t with
    | true =>
      go_wp2_with fail
      refine (QF.out _ ((Below.refl _ _).alloc (Nat.le_refl _) _)).mono ?_; rintro e w5 ⟨rfl, hb5⟩
      have HB5 := Lib.hid (HBr.out.trans ((z_below hb5).mono HBr.out.size))
      clear hb5
      go_wp2
      go_roundw
      case rel => exact ⟨k + 1, by omega, by go_num, Lib.hid (all_next HX.out HT.out HK.out), HB5⟩
      case measure => simp [intOf]; omega
    | false =>
      obtain rfl : r = false := by rw [← HR.out]; exact allR_no HX.out HT.out
      go_wp2_with fail
      refine (QF.out _ ((Below.refl _ _).alloc (Nat.le_refl _) _)).mono ?_; rintro e w5 ⟨rfl, hb5⟩
      have HB5 := Lib.hid (HBr.out.trans ((z_below hb5).mono HBr.out.size))
      clear hb5
      go_wp2
      go_ret
      exact ⟨rfl, HB5.out⟩
  · obtain rfl : r = true := by
      have h1 := HK.out
      rw [List.take_of_length_le (by have := HN.out; omega)] at h1
      rw [← HR.out]
      unfold allR
      rw [h1, decide_eq_true (by have := HN.out; omega)]; rfl
    go_wp2
    go_ret
    exact ⟨rfl, HBr.out⟩

set_option maxRecDepth 100000 in
set_option maxHeartbeats 8000000 in
theorem allBlock_any (lo hi : Nat) (w : World) (v : Value) (l : List Api.Block) (m : Nat) (f : Nat) (R : Api.Block → Bool) (h : Blocks lo hi w v l) (hh : hi ≤ w.heap.size) (hf : Tells f (fun w cs x => BlockC lo hi w cs x) (fun cs => .agg cs.toArray) R w l) (hm : m ≤ 100000) :
    Calls Tryd.prog 55 #[v, .int .i64 (m : Int), fv f] w fun e w' => e = .returned (.bool (allR m R l)) ∧ Below w.heap.size w w' := by
  obtain ⟨A, n, cap, b, off, rfl, hn, hm2, ha, hc⟩ := h
  obtain ⟨r, hr⟩ : ∃ r, allR m R l = r := ⟨_, rfl⟩
  rw [hr]
  by_cases hlen : m < n
  · obtain rfl : r = false := by rw [← hr]; unfold allR; rw [decide_eq_false (by omega)]; rfl
    have e1 : decide ((m : Int) < (n : Int)) = true := decide_eq_true (by omega)
    clear hc ha hf hr hn
    go_enter Tryd.func55, Tryd.ntmps55
    go_wp2
    go_ret
    exact ⟨rfl, Below.refl _ _⟩
  have e1 : decide ((m : Int) < (n : Int)) = false := decide_eq_false (by omega)
  have HF := Lib.hid hf
  have HE := hf.1
  have HC := Lib.hid hc
  have HA := Lib.hid ha
  have HN := Lib.hid hn
  have HR := Lib.hid hr
  clear hc ha hf hr hn
  go_enter Tryd.func55, Tryd.ntmps55
  go_wp2_with fail
  go_loopw [15] (fun i wr => ∃ k : Nat, k ≤ n ∧ i = .int .i64 k ∧ Hid ((l.take k).all R = true) ∧ Hid (Below w.heap.size w wr)) (fun i _ => n - (intOf i).toNat)
  case atStart => exact ⟨0, Nat.zero_le _, rfl, Lib.hid rfl, Lib.hid (Below.refl _ _)⟩
  case round =>
  obtain ⟨k, hk, rfl, HK, HBr⟩ := hrel
  by_cases hlt : k < n
  · obtain ⟨x, hx⟩ : ∃ x, l[k]? = some x := ⟨_, List.getElem?_eq_getElem (by have := HN.out; omega)⟩
    obtain ⟨rfl, _, hb1⟩ := HA.out (by omega)
    obtain ⟨cs, _, q1, hu⟩ := HC.out k x hx
    have hb1 : b < w.heap.size := by omega
    have qf := fun (w' : World) (hb : Below wr.heap.size wr w') => HF.out.2 w' cs x (HBr.out.trans (hb.mono HBr.out.size)) (List.mem_of_getElem? hx) (BlockC.move (Still.of_below ((HBr.out.trans (hb.mono HBr.out.size)).mono hh)) hu)
    obtain ⟨y1, y2, c2, rfl, g1, g2, y3, rfl, g3⟩ := hu; obtain ⟨B1, k1, rfl⟩ := g1.form; obtain ⟨B2, k2, rfl⟩ := g2.form; obtain ⟨B3, k3, rfl⟩ := g3.form
    obtain ⟨n0, n1, n2, n3, n4, n5, n6, n7, n8⟩ := at9 (cells_later q1 HBr.out hb1)
    obtain ⟨t, ht⟩ : ∃ t, R x = t := ⟨_, rfl⟩
    rw [ht] at qf
    have QF := Lib.hid qf
    have HX := Lib.hid hx
    have HT := Lib.hid ht
    clear q1 hx qf ht
    cases t with
    | true =>
      go_wp2_with fail
      refine (QF.out _ ((Below.refl _ _).alloc (Nat.le_refl _) _)).mono ?_; rintro e w5 ⟨rfl, hb5⟩
      have HB5 := Lib.hid (HBr.out.trans ((z_below hb5).mono HBr.out.size))
      clear hb5
      go_wp2
      go_roundw
      case rel => exact ⟨k + 1, by omega, by go_num, Lib.hid (all_next HX.out HT.out HK.out), HB5⟩
      case measure => simp [intOf]; omega
    | false =>
      obtain rfl : r = false := by rw [← HR.out]; exact allR_no HX.out HT.out
      go_wp2_with fail
      refine (QF.out _ ((Below.refl _ _).alloc (Nat.le_refl _) _)).mono ?_; rintro e w5 ⟨rfl, hb5⟩
      have HB5 := Lib.hid (HBr.out.trans ((z_below hb5).mono HBr.out.size))
      clear hb5
      go_wp2
      go_ret
      exact ⟨rfl, HB5.out⟩
  · obtain rfl : r = true := by
      have h1 := HK.out
      rw [List.take_of_length_le (by have := HN.out; omega)] at h1
      rw [← HR.out]
      unfold allR
      rw [h1, decide_eq_true (by have := HN.out; omega)]; rfl
    go_wp2
    go_ret
    exact ⟨rfl, HBr.out⟩

set_option maxRecDepth 100000 in
set_option maxHeartbeats 8000000 in
theorem allPhi_any (lo hi : Nat) (w : World) (v : Value) (l : List Phi) (m : Nat) (f : Nat) (R : Phi → Bool) (h : Phis lo hi w v l) (hh : hi ≤ w.heap.size) (hf : Tells f (fun w cs x => PhiC lo hi w cs x) (fun cs => .agg cs.toArray) R w l) (hm : m ≤ 100000) :
    Calls Tryd.prog 81 #[v, .int .i64 (m : Int), fv f] w fun e w' => e = .returned (.bool (allR m R l)) ∧ Below w.heap.size w w' := by
  obtain ⟨A, n, cap, b, off, rfl, hn, hm2, ha, hc⟩ := h
  obtain ⟨r, hr⟩ : ∃ r, allR m R l = r := ⟨_, rfl⟩
  rw [hr]
  by_cases hlen : m < n
  · obtain rfl : r = false := by rw [← hr]; unfold allR; rw [decide_eq_false (by omega)]; rfl
    have e1 : decide ((m : Int) < (n : Int)) = true := decide_eq_true (by omega)
    clear hc ha hf hr hn
    go_enter Tryd.func81, Tryd.ntmps81
    go_wp2
    go_ret
    exact ⟨rfl, Below.refl _ _⟩
  have e1 : decide ((m : Int) < (n : Int)) = false := decide_eq_false (by omega)
  have HF := Lib.hid hf
  have HE := hf.1
  have HC := Lib.hid hc
  have HA := Lib.hid ha
  have HN := Lib.hid hn
  have HR := Lib.hid hr
  clear hc ha hf hr hn
  go_enter Tryd.func81, Tryd.ntmps81
  go_wp2_with fail
  go_loopw [15] (fun i wr => ∃ k : Nat, k ≤ n ∧ i = .int .i64 k ∧ Hid ((l.take k).all R = true) ∧ Hid (Below w.heap.size w wr)) (fun i _ => n - (intOf i).toNat)
  case atStart => exact ⟨0, Nat.zero_le _, rfl, Lib.hid rfl, Lib.hid (Below.refl _ _)⟩
  case round =>
  obtain ⟨k, hk, rfl, HK, HBr⟩ := hrel
  by_cases hlt : k < n
  · obtain ⟨x, hx⟩ : ∃ x, l[k]? = some x := ⟨_, List.getElem?_eq_getElem (by have := HN.out; omega)⟩
    obtain ⟨rfl, _, hb1⟩ := HA.out (by omega)
    obtain ⟨cs, _, q1, hu⟩ := HC.out k x hx
    have hb1 : b < w.heap.size := by omega
    have qf := fun (w' : World) (hb : Below wr.heap.size wr w') => HF.out.2 w' cs x (HBr.out.trans (hb.mono HBr.out.size)) (List.mem_of_getElem? hx) (PhiC.move (Still.of_below ((HBr.out.trans (hb.mono HBr.out.size)).mono hh)) hu)
    obtain ⟨y1, rfl, g1⟩ := hu; obtain ⟨B1, k1, rfl⟩ := g1.form
    obtain ⟨n0, n1⟩ := at2 (cells_later q1 HBr.out hb1)
    obtain ⟨t, ht⟩ : ∃ t, R x = t := ⟨_, rfl⟩
    rw [ht] at qf
    have QF := Lib.hid qf
    have HX := Lib.hid hx
    have HT := Lib.hid ht
    clear q1 hx qf ht
    cases t with
    | true =>
      go_wp2_with fail
      refine (QF.out _ ((Below.refl _ _).alloc (Nat.le_refl _) _)).mono ?_; rintro e w5 ⟨rfl, hb5⟩
      have HB5 := Lib.hid (HBr.out.trans ((z_below hb5).mono HBr.out.size))
      clear hb5
      go_wp2
      go_roundw
      case rel => exact ⟨k + 1, by omega, by go_num, Lib.hid (all_next HX.out HT.out HK.out), HB5⟩
      case measure => simp [intOf]; omega
    | false =>
      obtain rfl : r = false := by rw [← HR.out]; exact allR_no HX.out HT.out
      go_wp2_with fail
      refine (QF.out _ ((Below.refl _ _).alloc (Nat.le_refl _) _)).mono ?_; rintro e w5 ⟨rfl, hb5⟩
      have HB5 := Lib.hid (HBr.out.trans ((z_below hb5).mono HBr.out.size))
      clear hb5
      go_wp2
      go_ret
      exact ⟨rfl, HB5.out⟩
  · obtain rfl : r = true := by
      have h1 := HK.out
      rw [List.take_of_length_le (by have := HN.out; omega)] at h1
      rw [← HR.out]
      unfold allR
      rw [h1, decide_eq_true (by have := HN.out; omega)]; rfl
    go_wp2
    go_ret
    exact ⟨rfl, HBr.out⟩

set_option maxRecDepth 100000 in
set_option maxHeartbeats 8000000 in
theorem allInstr_any (lo hi : Nat) (w : World) (v : Value) (l : List Instr) (m : Nat) (f : Nat) (R : Instr → Bool) (h : Instrs lo hi w v l) (hh : hi ≤ w.heap.size) (hf : Tells f (fun w cs x => InstrC lo hi w cs x) (fun cs => .agg cs.toArray) R w l) (hm : m ≤ 100000) :
    Calls Tryd.prog 83 #[v, .int .i64 (m : Int), fv f] w fun e w' => e = .returned (.bool (allR m R l)) ∧ Below w.heap.size w w' := by
  obtain ⟨A, n, cap, b, off, rfl, hn, hm2, ha, hc⟩ := h
  obtain ⟨r, hr⟩ : ∃ r, allR m R l = r := ⟨_, rfl⟩
  rw [hr]
  by_cases hlen : m < n
  · obtain rfl : r = false := by rw [← hr]; unfold allR; rw [decide_eq_false (by omega)]; rfl
    have e1 : decide ((m : Int) < (n : Int)) = true := decide_eq_true (by omega)
    clear hc ha hf hr hn
    go_enter Tryd.func83, Tryd.ntmps83
    go_wp2
    go_ret
    exact ⟨rfl, Below.refl _ _⟩
  have e1 : decide ((m : Int) < (n : Int)) = false := decide_eq_false (by omega)
  have HF := Lib.hid hf
  have HE := hf.1
  have HC := Lib.hid hc
  have HA := Lib.hid ha
  have HN := Lib.hid hn
  have HR := Lib.hid hr
  clear hc ha hf hr hn
  go_enter Tryd.func83, Tryd.ntmps83
  go_wp2_with fail
  go_loopw [15] (fun i wr => ∃ k : Nat, k ≤ n ∧ i = .int .i64 k ∧ Hid ((l.take k).all R = true) ∧ Hid (Below w.heap.size w wr)) (fun i _ => n - (intOf i).toNat)
  case atStart => exact ⟨0, Nat.zero_le _, rfl, Lib.hid rfl, Lib.hid (Below.refl _ _)⟩
  case round =>
  obtain ⟨k, hk, rfl, HK, HBr⟩ := hrel
  by_cases hlt : k < n
  · obtain ⟨x, hx⟩ : ∃ x, l[k]? = some x := ⟨_, List.getElem?_eq_getElem (by have := HN.out; omega)⟩
    obtain ⟨rfl, _, hb1⟩ := HA.out (by omega)
    obtain ⟨cs, _, q1, hu⟩ := HC.out k x hx
    have hb1 : b < w.heap.size := by omega
    have qf := fun (w' : World) (hb : Below wr.heap.size wr w') => HF.out.2 w' cs x (HBr.out.trans (hb.mono HBr.out.size)) (List.mem_of_getElem? hx) (InstrC.move (Still.of_below ((HBr.out.trans (hb.mono HBr.out.size)).mono hh)) hu)
    obtain ⟨y1, y2, y3, rfl, g1, g2, g3⟩ := hu; obtain ⟨B1, k1, rfl⟩ := g1.form; obtain ⟨B2, k2, rfl⟩ := g2.form; obtain ⟨B3, k3, rfl⟩ := g3.form
    obtain ⟨n0, n1, n2, n3, n4, n5⟩ := at6 (cells_later q1 HBr.out hb1)
    obtain ⟨t, ht⟩ : ∃ t, R x = t := ⟨_, rfl⟩
    rw [ht] at qf
    have QF := Lib.hid qf
    have HX := Lib.hid hx
    have HT := Lib.hid ht
    clear q1 hx qf ht
    cases t with
    | true =>
      go_wp2_with fail
      refine (QF.out _ ((Below.refl _ _).alloc (Nat.le_refl _) _)).mono ?_; rintro e w5 ⟨rfl, hb5⟩
      have HB5 := Lib.hid (HBr.out.trans ((z_below hb5).mono HBr.out.size))
      clear hb5
      go_wp2
      go_roundw
      case rel => exact ⟨k + 1, by omega, by go_num, Lib.hid (all_next HX.out HT.out HK.out), HB5⟩
      case measure => simp [intOf]; omega
    | false =>
      obtain rfl : r = false := by rw [← HR.out]; exact allR_no HX.out HT.out
      go_wp2_with fail
      refine (QF.out _ ((Below.refl _ _).alloc (Nat.le_refl _) _)).mono ?_; rintro e w5 ⟨rfl, hb5⟩
      have HB5 := Lib.hid (HBr.out.trans ((z_below hb5).mono HBr.out.size))
      clear hb5
      go_wp2
      go_ret
      exact ⟨rfl, HB5.out⟩
  · obtain rfl : r = true := by
      have h1 := HK.out
      rw [List.take_of_length_le (by have := HN.out; omega)] at h1
      rw [← HR.out]
      unfold allR
      rw [h1, decide_eq_true (by have := HN.out; omega)]; rfl
    go_wp2
    go_ret
    exact ⟨rfl, HBr.out⟩

set_option maxRecDepth 100000 in
set_option maxHeartbeats 8000000 in
theorem allIn_any (lo hi : Nat) (w : World) (v : Value) (l : List Bind) (m : Nat) (f : Nat) (R : Bind → Bool) (h : Binds lo hi w v l) (hh : hi ≤ w.heap.size) (hf : Tells f (fun _ cs x => cs = bindC x) (fun cs => .agg cs.toArray) R w l) (hm : m ≤ 100000) :
    Calls Tryd.prog 109 #[v, .int .i64 (m : Int), fv f] w fun e w' => e = .returned (.bool (allR m R l)) ∧ Below w.heap.size w w' := by
  obtain ⟨A, n, cap, b, off, rfl, hn, hm2, ha, hc⟩ := h
  obtain ⟨r, hr⟩ : ∃ r, allR m R l = r := ⟨_, rfl⟩
  rw [hr]
  by_cases hlen : m < n
  · obtain rfl : r = false := by rw [← hr]; unfold allR; rw [decide_eq_false (by omega)]; rfl
    have e1 : decide ((m : Int) < (n : Int)) = true := decide_eq_true (by omega)
    clear hc ha hf hr hn
    go_enter Tryd.func109, Tryd.ntmps109
    go_wp2
    go_ret
    exact ⟨rfl, Below.refl _ _⟩
  have e1 : decide ((m : Int) < (n : Int)) = false := decide_eq_false (by omega)
  have HF := Lib.hid hf
  have HE := hf.1
  have HC := Lib.hid hc
  have HA := Lib.hid ha
  have HN := Lib.hid hn
  have HR := Lib.hid hr
  clear hc ha hf hr hn
  go_enter Tryd.func109, Tryd.ntmps109
  go_wp2_with fail
  go_loopw [15] (fun i wr => ∃ k : Nat, k ≤ n ∧ i = .int .i64 k ∧ Hid ((l.take k).all R = true) ∧ Hid (Below w.heap.size w wr)) (fun i _ => n - (intOf i).toNat)
  case atStart => exact ⟨0, Nat.zero_le _, rfl, Lib.hid rfl, Lib.hid (Below.refl _ _)⟩
  case round =>
  obtain ⟨k, hk, rfl, HK, HBr⟩ := hrel
  by_cases hlt : k < n
  · obtain ⟨x, hx⟩ : ∃ x, l[k]? = some x := ⟨_, List.getElem?_eq_getElem (by have := HN.out; omega)⟩
    obtain ⟨rfl, _, hb1⟩ := HA.out (by omega)
    obtain ⟨cs, _, q1, hu⟩ := HC.out k x hx
    have hb1 : b < w.heap.size := by omega
    have qf := fun (w' : World) (hb : Below wr.heap.size wr w') => HF.out.2 w' cs x (HBr.out.trans (hb.mono HBr.out.size)) (List.mem_of_getElem? hx) (hu)
    subst hu
    obtain ⟨n0, n1, n2, n3⟩ := at4 (cells_later q1 HBr.out hb1)
    obtain ⟨t, ht⟩ : ∃ t, R x = t := ⟨_, rfl⟩
    rw [ht] at qf
    have QF := Lib.hid qf
    have HX := Lib.hid hx
    have HT := Lib.hid ht
    clear q1 hx qf ht
    cases t with
    | true =>
      go_wp2_with fail
      refine (QF.out _ ((Below.refl _ _).alloc (Nat.le_refl _) _)).mono ?_; rintro e w5 ⟨rfl, hb5⟩
      have HB5 := Lib.hid (HBr.out.trans ((z_below hb5).mono HBr.out.size))
      clear hb5
      go_wp2
      go_roundw
      case rel => exact ⟨k + 1, by omega, by go_num, Lib.hid (all_next HX.out HT.out HK.out), HB5⟩
      case measure => simp [intOf]; omega
    | false =>
      obtain rfl : r = false := by rw [← HR.out]; exact allR_no HX.out HT.out
      go_wp2_with fail
      refine (QF.out _ ((Below.refl _ _).alloc (Nat.le_refl _) _)).mono ?_; rintro e w5 ⟨rfl, hb5⟩
      have HB5 := Lib.hid (HBr.out.trans ((z_below hb5).mono HBr.out.size))
      clear hb5
      go_wp2
      go_ret
      exact ⟨rfl, HB5.out⟩
  · obtain rfl : r = true := by
      have h1 := HK.out
      rw [List.take_of_length_le (by have := HN.out; omega)] at h1
      rw [← HR.out]
      unfold allR
      rw [h1, decide_eq_true (by have := HN.out; omega)]; rfl
    go_wp2
    go_ret
    exact ⟨rfl, HBr.out⟩

set_option maxRecDepth 100000 in
set_option maxHeartbeats 8000000 in
theorem allArg_any (lo hi : Nat) (w : World) (v : Value) (l : List Arg) (m : Nat) (f : Nat) (R : Arg → Bool) (h : Args lo hi w v l) (hh : hi ≤ w.heap.size) (hf : Tells f (fun _ cs x => cs = argC x) (fun cs => .agg cs.toArray) R w l) (hm : m ≤ 100000) :
    Calls Tryd.prog 113 #[v, .int .i64 (m : Int), fv f] w fun e w' => e = .returned (.bool (allR m R l)) ∧ Below w.heap.size w w' := by
  obtain ⟨A, n, cap, b, off, rfl, hn, hm2, ha, hc⟩ := h
  obtain ⟨r, hr⟩ : ∃ r, allR m R l = r := ⟨_, rfl⟩
  rw [hr]
  by_cases hlen : m < n
  · obtain rfl : r = false := by rw [← hr]; unfold allR; rw [decide_eq_false (by omega)]; rfl
    have e1 : decide ((m : Int) < (n : Int)) = true := decide_eq_true (by omega)
    clear hc ha hf hr hn
    go_enter Tryd.func113, Tryd.ntmps113
    go_wp2
    go_ret
    exact ⟨rfl, Below.refl _ _⟩
  have e1 : decide ((m : Int) < (n : Int)) = false := decide_eq_false (by omega)
  have HF := Lib.hid hf
  have HE := hf.1
  have HC := Lib.hid hc
  have HA := Lib.hid ha
  have HN := Lib.hid hn
  have HR := Lib.hid hr
  clear hc ha hf hr hn
  go_enter Tryd.func113, Tryd.ntmps113
  go_wp2_with fail
  go_loopw [15] (fun i wr => ∃ k : Nat, k ≤ n ∧ i = .int .i64 k ∧ Hid ((l.take k).all R = true) ∧ Hid (Below w.heap.size w wr)) (fun i _ => n - (intOf i).toNat)
  case atStart => exact ⟨0, Nat.zero_le _, rfl, Lib.hid rfl, Lib.hid (Below.refl _ _)⟩
  case round =>
  obtain ⟨k, hk, rfl, HK, HBr⟩ := hrel
  by_cases hlt : k < n
  · obtain ⟨x, hx⟩ : ∃ x, l[k]? = some x := ⟨_, List.getElem?_eq_getElem (by have := HN.out; omega)⟩
    obtain ⟨rfl, _, hb1⟩ := HA.out (by omega)
    obtain ⟨cs, _, q1, hu⟩ := HC.out k x hx
    have hb1 : b < w.heap.size := by omega
    have qf := fun (w' : World) (hb : Below wr.heap.size wr w') => HF.out.2 w' cs x (HBr.out.trans (hb.mono HBr.out.size)) (List.mem_of_getElem? hx) (hu)
    subst hu
    obtain ⟨n0, n1, n2⟩ := at3 (cells_later q1 HBr.out hb1)
    obtain ⟨t, ht⟩ : ∃ t, R x = t := ⟨_, rfl⟩
    rw [ht] at qf
    have QF := Lib.hid qf
    have HX := Lib.hid hx
    have HT := Lib.hid ht
    clear q1 hx qf ht
    cases t with
    | true =>
      go_wp2_with fail
      refine (QF.out _ ((Below.refl _ _).alloc (Nat.le_refl _) _)).mono ?_; rintro e w5 ⟨rfl, hb5⟩
      have HB5 := Lib.hid (HBr.out.trans ((z_below hb5).mono HBr.out.size))
      clear hb5
      go_wp2
      go_roundw
      case rel => exact ⟨k + 1, by omega, by go_num, Lib.hid (all_next HX.out HT.out HK.out), HB5⟩
      case measure => simp [intOf]; omega
    | false =>
      obtain rfl : r = false := by rw [← HR.out]; exact allR_no HX.out HT.out
      go_wp2_with fail
      refine (QF.out _ ((Below.refl _ _).alloc (Nat.le_refl _) _)).mono ?_; rintro e w5 ⟨rfl, hb5⟩
      have HB5 := Lib.hid (HBr.out.trans ((z_below hb5).mono HBr.out.size))
      clear hb5
      go_wp2
      go_ret
      exact ⟨rfl, HB5.out⟩
  · obtain rfl : r = true := by
      have h1 := HK.out
      rw [List.take_of_length_le (by have := HN.out; omega)] at h1
      rw [← HR.out]
      unfold allR
      rw [h1, decide_eq_true (by have := HN.out; omega)]; rfl
    go_wp2
    go_ret
    exact ⟨rfl, HBr.out⟩

set_option maxRecDepth 100000 in
set_option maxHeartbeats 8000000 in
theorem allFrame_any (lo hi : Nat) (w : World) (v : Value) (l : List Api.Frame) (m : Nat) (f : Nat) (R : Api.Frame → Bool) (h : Frames lo hi w v l) (hh : hi ≤ w.heap.size) (hf : Tells f (fun w cs x => FrameC lo hi w cs x) (fun cs => .agg cs.toArray) R w l) (hm : m ≤ 100000) :
    Calls Tryd.prog 131 #[v, .int .i64 (m : Int), fv f] w fun e w' => e = .returned (.bool (allR m R l)) ∧ Below w.heap.size w w' := by
  obtain ⟨A, n, cap, b, off, rfl, hn, hm2, ha, hc⟩ := h
  obtain ⟨r, hr⟩ : ∃ r, allR m R l = r := ⟨_, rfl⟩
  rw [hr]
  by_cases hlen : m < n
  · obtain rfl : r = false := by rw [← hr]; unfold allR; rw [decide_eq_false (by omega)]; rfl
    have e1 : decide ((m : Int) < (n : Int)) = true := decide_eq_true (by omega)
    clear hc ha hf hr hn
    go_enter Tryd.func131, Tryd.ntmps131
    go_wp2
    go_ret
    exact ⟨rfl, Below.refl _ _⟩
  have e1 : decide ((m : Int) < (n : Int)) = false := decide_eq_false (by omega)
  have HF := Lib.hid hf
  have HE := hf.1
  have HC := Lib.hid hc
  have HA := Lib.hid ha
  have HN := Lib.hid hn
  have HR := Lib.hid hr
  clear hc ha hf hr hn
  go_enter Tryd.func131, Tryd.ntmps131
  go_wp2_with fail
  go_loopw [15] (fun i wr => ∃ k : Nat, k ≤ n ∧ i = .int .i64 k ∧ Hid ((l.take k).all R = true) ∧ Hid (Below w.heap.size w wr)) (fun i _ => n - (intOf i).toNat)
  case atStart => exact ⟨0, Nat.zero_le _, rfl, Lib.hid rfl, Lib.hid (Below.refl _ _)⟩
  case round =>
  obtain ⟨k, hk, rfl, HK, HBr⟩ := hrel
  by_cases hlt : k < n
  · obtain ⟨x, hx⟩ : ∃ x, l[k]? = some x := ⟨_, List.getElem?_eq_getElem (by have := HN.out; omega)⟩
    obtain ⟨rfl, _, hb1⟩ := HA.out (by omega)
    obtain ⟨cs, _, q1, hu⟩ := HC.out k x hx
    have hb1 : b < w.heap.size := by omega
    have qf := fun (w' : World) (hb : Below wr.heap.size wr w') => HF.out.2 w' cs x (HBr.out.trans (hb.mono HBr.out.size)) (List.mem_of_getElem? hx) (FrameC.move (Still.of_below ((HBr.out.trans (hb.mono HBr.out.size)).mono hh)) hu)
    obtain ⟨y1, rfl, g1⟩ := hu; obtain ⟨B1, k1, rfl⟩ := g1.form
    obtain ⟨n0, n1, n2, n3⟩ := at4 (cells_later q1 HBr.out hb1)
    obtain ⟨t, ht⟩ : ∃ t, R x = t := ⟨_, rfl⟩
    rw [ht] at qf
    have QF := Lib.hid qf
    have HX := Lib.hid hx
    have HT := Lib.hid ht
    clear q1 hx qf ht
    cases t with
    | true =>
      go_wp2_with fail
      refine (QF.out _ ((Below.refl _ _).alloc (Nat.le_refl _) _)).mono ?_; rintro e w5 ⟨rfl, hb5⟩
      have HB5 := Lib.hid (HBr.out.trans ((z_below hb5).mono HBr.out.size))
      clear hb5
      go_wp2
      go_roundw
      case rel => exact ⟨k + 1, by omega, by go_num, Lib.hid (all_next HX.out HT.out HK.out), HB5⟩
      case measure => simp [intOf]; omega
    | false =>
      obtain rfl : r = false := by rw [← HR.out]; exact allR_no HX.out HT.out
      go_wp2_with fail
      refine (QF.out _ ((Below.refl _ _).alloc (Nat.le_refl _) _)).mono ?_; rintro e w5 ⟨rfl, hb5⟩
      have HB5 := Lib.hid (HBr.out.trans ((z_below hb5).mono HBr.out.size))
      clear hb5
      go_wp2
      go_ret
      exact ⟨rfl, HB5.out⟩
  · obtain rfl : r = true := by
      have h1 := HK.out
      rw [List.take_of_length_le (by have := HN.out; omega)] at h1
      rw [← HR.out]
      unfold allR
      rw [h1, decide_eq_true (by have := HN.out; omega)]; rfl
    go_wp2
    go_ret
    exact ⟨rfl, HBr.out⟩

set_option maxRecDepth 100000 in
set_option maxHeartbeats 8000000 in
theorem allVirt_any (lo hi : Nat) (w : World) (v : Value) (l : List Virt) (m : Nat) (f : Nat) (R : Virt → Bool) (h : Virts lo hi w v l) (hh : hi ≤ w.heap.size) (hf : Tells f (fun w cs x => VirtC lo hi w cs x) (fun cs => .agg cs.toArray) R w l) (hm : m ≤ 100000) :
    Calls Tryd.prog 133 #[v, .int .i64 (m : Int), fv f] w fun e w' => e = .returned (.bool (allR m R l)) ∧ Below w.heap.size w w' := by
  obtain ⟨A, n, cap, b, off, rfl, hn, hm2, ha, hc⟩ := h
  obtain ⟨r, hr⟩ : ∃ r, allR m R l = r := ⟨_, rfl⟩
  rw [hr]
  by_cases hlen : m < n
  · obtain rfl : r = false := by rw [← hr]; unfold allR; rw [decide_eq_false (by omega)]; rfl
    have e1 : decide ((m : Int) < (n : Int)) = true := decide_eq_true (by omega)
    clear hc ha hf hr hn
    go_enter Tryd.func133, Tryd.ntmps133
    go_wp2
    go_ret
    exact ⟨rfl, Below.refl _ _⟩
  have e1 : decide ((m : Int) < (n : Int)) = false := decide_eq_false (by omega)
  have HF := Lib.hid hf
  have HE := hf.1
  have HC := Lib.hid hc
  have HA := Lib.hid ha
  have HN := Lib.hid hn
  have HR := Lib.hid hr
  clear hc ha hf hr hn
  go_enter Tryd.func133, Tryd.ntmps133
  go_wp2_with fail
  go_loopw [15] (fun i wr => ∃ k : Nat, k ≤ n ∧ i = .int .i64 k ∧ Hid ((l.take k).all R = true) ∧ Hid (Below w.heap.size w wr)) (fun i _ => n - (intOf i).toNat)
  case atStart => exact ⟨0, Nat.zero_le _, rfl, Lib.hid rfl, Lib.hid (Below.refl _ _)⟩
  case round =>
  obtain ⟨k, hk, rfl, HK, HBr⟩ := hrel
  by_cases hlt : k < n
  · obtain ⟨x, hx⟩ : ∃ x, l[k]? = some x := ⟨_, List.getElem?_eq_getElem (by have := HN.out; omega)⟩
    obtain ⟨rfl, _, hb1⟩ := HA.out (by omega)
    obtain ⟨cs, _, q1, hu⟩ := HC.out k x hx
    have hb1 : b < w.heap.size := by omega
    have qf := fun (w' : World) (hb : Below wr.heap.size wr w') => HF.out.2 w' cs x (HBr.out.trans (hb.mono HBr.out.size)) (List.mem_of_getElem? hx) (VirtC.move (Still.of_below ((HBr.out.trans (hb.mono HBr.out.size)).mono hh)) hu)
    obtain ⟨y1, rfl, g1⟩ := hu; obtain ⟨B1, k1, rfl⟩ := g1.form
    obtain ⟨n0, n1⟩ := at2 (cells_later q1 HBr.out hb1)
    obtain ⟨t, ht⟩ : ∃ t, R x = t := ⟨_, rfl⟩
    rw [ht] at qf
    have QF := Lib.hid qf
    have HX := Lib.hid hx
    have HT := Lib.hid ht
    clear q1 hx qf ht
    cases t with
    | true =>
      go_wp2_with fail
      refine (QF.out _ ((Below.refl _ _).alloc (Nat.le_refl _) _)).mono ?_; rintro e w5 ⟨rfl, hb5⟩
      have HB5 := Lib.hid (HBr.out.trans ((z_below hb5).mono HBr.out.size))
      clear hb5
      go_wp2
      go_roundw
      case rel => exact ⟨k + 1, by omega, by go_num, Lib.hid (all_next HX.out HT.out HK.out), HB5⟩
      case measure => simp [intOf]; omega
    | false =>
      obtain rfl : r = false := by rw [← HR.out]; exact allR_no HX.out HT.out
      go_wp2_with fail
      refine (QF.out _ ((Below.refl _ _).alloc (Nat.le_refl _) _)).mono ?_; rintro e w5 ⟨rfl, hb5⟩
      have HB5 := Lib.hid (HBr.out.trans ((z_below hb5).mono HBr.out.size))
      clear hb5
      go_wp2
      go_ret
      exact ⟨rfl, HB5.out⟩
  · obtain rfl : r = true := by
      have h1 := HK.out
      rw [List.take_of_length_le (by have := HN.out; omega)] at h1
      rw [← HR.out]
      unfold allR
      rw [h1, decide_eq_true (by have := HN.out; omega)]; rfl
    go_wp2
    go_ret
    exact ⟨rfl, HBr.out⟩

set_option maxRecDepth 100000 in
set_option maxHeartbeats 8000000 in
theorem allBind_any (lo hi : Nat) (w : World) (v : Value) (l : List Bind) (m : Nat) (f : Nat) (R : Bind → Bool) (h : Binds lo hi w v l) (hh : hi ≤ w.heap.size) (hf : Tells f (fun _ cs x => cs = bindC x) (fun cs => .agg cs.toArray) R w l) (hm : m ≤ 100000) :
    Calls Tryd.prog 149 #[v, .int .i64 (m : Int), fv f] w fun e w' => e = .returned (.bool (allR m R l)) ∧ Below w.heap.size w w' := by
  obtain ⟨A, n, cap, b, off, rfl, hn, hm2, ha, hc⟩ := h
  obtain ⟨r, hr⟩ : ∃ r, allR m R l = r := ⟨_, rfl⟩
  rw [hr]
  by_cases hlen : m < n
  · obtain rfl : r = false := by rw [← hr]; unfold allR; rw [decide_eq_false (by omega)]; rfl
    have e1 : decide ((m : Int) < (n : Int)) = true := decide_eq_true (by omega)
    clear hc ha hf hr hn
    go_enter Tryd.func149, Tryd.ntmps149
    go_wp2
    go_ret
    exact ⟨rfl, Below.refl _ _⟩
  have e1 : decide ((m : Int) < (n : Int)) = false := decide_eq_false (by omega)
  have HF := Lib.hid hf
  have HE := hf.1
  have HC := Lib.hid hc
  have HA := Lib.hid ha
  have HN := Lib.hid hn
  have HR := Lib.hid hr
  clear hc ha hf hr hn
  go_enter Tryd.func149, Tryd.ntmps149
  go_wp2_with fail
  go_loopw [15] (fun i wr => ∃ k : Nat, k ≤ n ∧ i = .int .i64 k ∧ Hid ((l.take k).all R = true) ∧ Hid (Below w.heap.size w wr)) (fun i _ => n - (intOf i).toNat)
  case atStart => exact ⟨0, Nat.zero_le _, rfl, Lib.hid rfl, Lib.hid (Below.refl _ _)⟩
  case round =>
  obtain ⟨k, hk, rfl, HK, HBr⟩ := hrel
  by_cases hlt : k < n
  · obtain ⟨x, hx⟩ : ∃ x, l[k]? = some x := ⟨_, List.getElem?_eq_getElem (by have := HN.out; omega)⟩
    obtain ⟨rfl, _, hb1⟩ := HA.out (by omega)
    obtain ⟨cs, _, q1, hu⟩ := HC.out k x hx
    have hb1 : b < w.heap.size := by omega
    have qf := fun (w' : World) (hb : Below wr.heap.size wr w') => HF.out.2 w' cs x (HBr.out.trans (hb.mono HBr.out.size)) (List.mem_of_getElem? hx) (hu)
    subst hu
    obtain ⟨n0, n1, n2, n3⟩ := at4 (cells_later q1 HBr.out hb1)
    obtain ⟨t, ht⟩ : ∃ t, R x = t := ⟨_, rfl⟩
    rw [ht] at qf
    have QF := Lib.hid qf
    have HX := Lib.hid hx
    have HT := Lib.hid ht
    clear q1 hx qf ht
    cases t with
    | true =>
      go_wp2_with fail
      refine (QF.out _ ((Below.refl _ _).alloc (Nat.le_refl _) _)).mono ?_; rintro e w5 ⟨rfl, hb5⟩
      have HB5 := Lib.hid (HBr.out.trans ((z_below hb5).mono HBr.out.size))
      clear hb5
      go_wp2
      go_roundw
      case rel => exact ⟨k + 1, by omega, by go_num, Lib.hid (all_next HX.out HT.out HK.out), HB5⟩
      case measure => simp [intOf]; omega
    | false =>
      obtain rfl : r = false := by rw [← HR.out]; exact allR_no HX.out HT.out
      go_wp2_with fail
      refine (QF.out _ ((Below.refl _ _).alloc (Nat.le_refl _) _)).mono ?_; rintro e w5 ⟨rfl, hb5⟩
      have HB5 := Lib.hid (HBr.out.trans ((z_below hb5).mono HBr.out.size))
      clear hb5
      go_wp2
      go_ret
      exact ⟨rfl, HB5.out⟩
  · obtain rfl : r = true := by
      have h1 := HK.out
      rw [List.take_of_length_le (by have := HN.out; omega)] at h1
      rw [← HR.out]
      unfold allR
      rw [h1, decide_eq_true (by have := HN.out; omega)]; rfl
    go_wp2
    go_ret
    exact ⟨rfl, HBr.out⟩

set_option maxRecDepth 100000 in
set_option maxHeartbeats 8000000 in
theorem allStr_any (lo hi : Nat) (w : World) (v : Value) (l : List Wd) (m : Nat) (f : Nat) (R : Wd → Bool) (h : Texts lo hi w v l) (hh : hi ≤ w.heap.size) (hf : Tells f (fun _ cs x => cs = [str x]) (fun cs => cs.headD undef) R w l) (hm : m ≤ 100000) :
    Calls Tryd.prog 135 #[v, .int .i64 (m : Int), fv f] w fun e w' => e = .returned (.bool (allR m R l)) ∧ Below w.heap.size w w' := by
  obtain ⟨A, n, cap, b, off, rfl, hn, hm2, ha, hc⟩ := h
  obtain ⟨r, hr⟩ : ∃ r, allR m R l = r := ⟨_, rfl⟩
  rw [hr]
  by_cases hlen : m < n
  · obtain rfl : r = false := by rw [← hr]; unfold allR; rw [decide_eq_false (by omega)]; rfl
    have e1 : decide ((m : Int) < (n : Int)) = true := decide_eq_true (by omega)
    clear hc ha hf hr hn
    go_enter Tryd.func135, Tryd.ntmps135
    go_wp2
    go_ret
    exact ⟨rfl, Below.refl _ _⟩
  have e1 : decide ((m : Int) < (n : Int)) = false := decide_eq_false (by omega)
  have HF := Lib.hid hf
  have HE := hf.1
  have HC := Lib.hid hc
  have HA := Lib.hid ha
  have HN := Lib.hid hn
  have HR := Lib.hid hr
  clear hc ha hf hr hn
  go_enter Tryd.func135, Tryd.ntmps135
  go_wp2_with fail
  go_loopw [15] (fun i wr => ∃ k : Nat, k ≤ n ∧ i = .int .i64 k ∧ Hid ((l.take k).all R = true) ∧ Hid (Below w.heap.size w wr)) (fun i _ => n - (intOf i).toNat)
  case atStart => exact ⟨0, Nat.zero_le _, rfl, Lib.hid rfl, Lib.hid (Below.refl _ _)⟩
  case round =>
  obtain ⟨k, hk, rfl, HK, HBr⟩ := hrel
  by_cases hlt : k < n
  · obtain ⟨x, hx⟩ : ∃ x, l[k]? = some x := ⟨_, List.getElem?_eq_getElem (by have := HN.out; omega)⟩
    obtain ⟨rfl, _, hb1⟩ := HA.out (by omega)
    obtain ⟨cs, _, q1, hu⟩ := HC.out k x hx
    have hb1 : b < w.heap.size := by omega
    have qf := fun (w' : World) (hb : Below wr.heap.size wr w') => HF.out.2 w' cs x (HBr.out.trans (hb.mono HBr.out.size)) (List.mem_of_getElem? hx) (hu)
    subst hu
    have n0 := cells_later q1 HBr.out hb1 0 _ rfl
    rw [Nat.mul_one, Nat.add_zero] at n0
    obtain ⟨t, ht⟩ : ∃ t, R x = t := ⟨_, rfl⟩
    rw [ht] at qf
    have QF := Lib.hid qf
    have HX := Lib.hid hx
    have HT := Lib.hid ht
    clear q1 hx qf ht
    cases t with
    | true =>
      go_wp2_with fail
      refine (QF.out _ (Below.refl _ _)).mono ?_; rintro e w5 ⟨rfl, hb5⟩
      have HB5 := Lib.hid (HBr.out.trans (hb5.mono HBr.out.size))
      clear hb5
      go_wp2
      go_roundw
      case rel => exact ⟨k + 1, by omega, by go_num, Lib.hid (all_next HX.out HT.out HK.out), HB5⟩
      case measure => simp [intOf]; omega
    | false =>
      obtain rfl : r = false := by rw [← HR.out]; exact allR_no HX.out HT.out
      go_wp2_with fail
      refine (QF.out _ (Below.refl _ _)).mono ?_; rintro e w5 ⟨rfl, hb5⟩
      have HB5 := Lib.hid (HBr.out.trans (hb5.mono HBr.out.size))
      clear hb5
      go_wp2
      go_ret
      exact ⟨rfl, HB5.out⟩
  · obtain rfl : r = true := by
      have h1 := HK.out
      rw [List.take_of_length_le (by have := HN.out; omega)] at h1
      rw [← HR.out]
      unfold allR
      rw [h1, decide_eq_true (by have := HN.out; omega)]; rfl
    go_wp2
    go_ret
    exact ⟨rfl, HBr.out⟩

end Go.Proofs.YtdgmdpphimenjaaDoor.Sh6
