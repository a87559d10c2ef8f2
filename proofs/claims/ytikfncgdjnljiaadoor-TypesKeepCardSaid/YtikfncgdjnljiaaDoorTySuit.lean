/-
  Package types: whether lists of types fit; a field.
-/
import Derived.Test.YtikfncgdjnljiaaDoorTyOf
namespace Go.Proofs.YtikfncgdjnljiaaDoor.Ty7
open Go.RowKit Api Syn WordM Mem

theorem str_eq (x y : Wd) : ((⟨x.toArray⟩ : ByteArray).toList == (⟨y.toArray⟩ : ByteArray).toList) = (x == y) := by rw [ByteArray.toList_eq, ByteArray.toList_eq]
set_option maxRecDepth 100000 in
set_option maxHeartbeats 8000000 in
theorem allAre_any (lo hi : Nat) (w : World) (v : Value) (ts : List Wd) (h : LinesM.Strs lo hi w v ts) (s : ByteArray) (want : Wd) (hs : s.toList = want) :
    Calls Tryd.prog 83 #[v, .string s] w fun e w' => e = .returned (.bool (allAreT ts want)) ∧ w = w' := by
  obtain ⟨A, n, cap, b, off, rfl, hn, hm2, ha, hc⟩ := h
  have HC := Lib.hid hc
  have HA := Lib.hid ha
  have HN := Lib.hid hn
  have HS := Lib.hid hs
  clear hc ha hn hs
  go_enter Tryd.func83, Tryd.ntmps83
  go_wp2_with fail
  go_loopw [9] (fun i wr => ∃ k : Nat, k ≤ n ∧ i = .int .i64 k ∧ Hid (∀ y ∈ ts.take k, (y == want) = true) ∧ w = wr) (fun i _ => n - (intOf i).toNat)
  case atStart => exact ⟨0, Nat.zero_le _, rfl, Lib.hid (by simp), rfl⟩
  case round =>
  obtain ⟨k, hk, rfl, HK, rfl⟩ := hrel
  by_cases hlt : k < n
  · obtain ⟨x, hx⟩ : ∃ x, ts[k]? = some x := ⟨_, List.getElem?_eq_getElem (by have := HN.out; omega)⟩
    obtain ⟨rfl, _, hb1⟩ := HA.out (by omega)
    have q1 := HC.out k _ hx
    obtain ⟨sn, hsn⟩ : ∃ s : ByteArray, s = ⟨x.toArray⟩ := ⟨_, rfl⟩
    rw [← hsn] at q1
    have hsl : sn.toList = x := by rw [hsn, ByteArray.toList_eq]
    have HX := Lib.hid hx
    clear hx hsn
    by_cases he : x = want
    · have e1 : (sn.toList == s.toList) = true := by rw [hsl, HS.out, he]; simp
      have HE := Lib.hid he
      clear hsl he
      go_wp2_with fail
      go_roundw
      case rel =>
        refine ⟨k + 1, by omega, by go_num, Lib.hid fun y hy => ?_, trivial⟩
        rw [LinesM.take_next HX.out, List.mem_append, List.mem_singleton] at hy
        rcases hy with hy | rfl
        · exact HK.out y hy
        · simpa using HE.out
      case measure => simp [intOf]; omega
    · have e1 : (sn.toList == s.toList) = false := by rw [hsl, HS.out]; simpa using he
      have hno : allAreT ts want = false := by
        unfold allAreT
        rw [List.all_eq_false]
        exact ⟨x, List.mem_of_getElem? HX.out, by simpa using he⟩
      have HNO := Lib.hid hno
      clear hsl he hno
      go_wp2_with fail
      go_ret
      exact ⟨by rw [HNO.out]; rfl, rfl⟩
  · have hyes : allAreT ts want = true := by
      unfold allAreT
      rw [List.all_eq_true]
      have := HK.out
      rwa [List.take_of_length_le (by have := HN.out; omega)] at this
    have HY := Lib.hid hyes
    clear hyes
    go_wp2_with fail
    go_ret
    exact ⟨by rw [HY.out]; rfl, rfl⟩
theorem fit_all {ts : List Wd} {vs : List Var} (hn : ts.length = vs.length) : allFitT ts vs = (ts.zip vs).all fun x => fitsT x.1 x.2.type := by unfold allFitT; rw [decide_eq_true hn]; simp
theorem zip_at {ts : List Wd} {vs : List Var} {k : Nat} {t : Wd} {v : Var} (h1 : ts[k]? = some t) (h2 : vs[k]? = some v) : (ts.zip vs)[k]? = some (t, v) := by
  rw [List.getElem?_zip_eq_some]
  exact ⟨h1, h2⟩
set_option maxRecDepth 100000 in
set_option maxHeartbeats 8000000 in
theorem allFit_any (lo hi lo2 hi2 : Nat) (w : World) (v v2 : Value) (ts : List Wd) (vs : List Var) (h : LinesM.Strs lo hi w v ts) (h2 : Vars lo2 hi2 w v2 vs) :
    Calls Tryd.prog 80 #[v, v2] w fun e w' => e = .returned (.bool (allFitT ts vs)) ∧ w = w' := by
  obtain ⟨A, n, cap, b, off, rfl, hn, hm2, ha, hc⟩ := h
  obtain ⟨A2, n2, cap2, b2, off2, rfl, hn2, hm22, ha2, hc2⟩ := h2
  have HC := Lib.hid hc
  have HA := Lib.hid ha
  have HN := Lib.hid hn
  have HC2 := Lib.hid hc2
  have HA2 := Lib.hid ha2
  have HN2 := Lib.hid hn2
  clear hc ha hn hc2 ha2 hn2
  by_cases hne : n = n2
  · subst hne
    have e0 : ((n : Int) != (n : Int)) = false := by simp
    have hnn : ts.length = vs.length := by rw [← HN.out, HN2.out]
    have HNN := Lib.hid hnn
    clear hnn
    go_enter Tryd.func80, Tryd.ntmps80
    go_wp2_with fail
    go_loopw [14] (fun i wr => ∃ k : Nat, k ≤ n ∧ i = .int .i64 k ∧ Hid (∀ y ∈ (ts.zip vs).take k, fitsT y.1 y.2.type = true) ∧ w = wr) (fun i _ => n - (intOf i).toNat)
    case atStart => exact ⟨0, Nat.zero_le _, rfl, Lib.hid (by simp), rfl⟩
    case round =>
    obtain ⟨k, hk, rfl, HK, rfl⟩ := hrel
    by_cases hlt : k < n
    · obtain ⟨x, hx⟩ : ∃ x, ts[k]? = some x := ⟨_, List.getElem?_eq_getElem (by have := HN.out; omega)⟩
      obtain ⟨⟨vn, vt⟩, hy⟩ : ∃ x, vs[k]? = some x := ⟨_, List.getElem?_eq_getElem (by have := HN2.out; omega)⟩
      obtain ⟨rfl, _, hb1⟩ := HA.out (by omega)
      obtain ⟨rfl, _, hb2⟩ := HA2.out (by omega)
      have q1 := HC.out k _ hx
      obtain ⟨cs2, _, q2, rfl⟩ := HC2.out k _ hy
      obtain ⟨m0, m1⟩ := at2 q2
      simp only at m0 m1
      obtain ⟨sx, hsx⟩ : ∃ s : ByteArray, s = ⟨x.toArray⟩ := ⟨_, rfl⟩
      obtain ⟨sy, hsy⟩ : ∃ s : ByteArray, s = ⟨vt.toArray⟩ := ⟨_, rfl⟩
      have hz := zip_at hx hy
      obtain ⟨d, hd⟩ : ∃ d, fitsT x vt = d := ⟨_, rfl⟩
      have QF := Lib.hid fun w' => fits_any w' sx sy d (by rw [hsx, hsy, str_list, str_list]; exact hd)
      rw [← hsx] at q1
      rw [show (str vt : Value) = .string sy by rw [hsy]] at m1
      have HZ := Lib.hid hz
      have HD := Lib.hid hd
      clear hx hy q2 hsx hsy hz hd m0
      cases d with
      | true =>
        go_wp2_with ((with_reducible refine (QF.out _).mono ?_); rintro e w5 ⟨rfl, hw5⟩; obtain rfl := hw5)
        go_roundw
        case rel =>
          refine ⟨k + 1, by omega, by go_num, Lib.hid fun y hy => ?_, trivial⟩
          rw [LinesM.take_next HZ.out, List.mem_append, List.mem_singleton] at hy
          rcases hy with hy | rfl
          · exact HK.out y hy
          · exact HD.out
        case measure => simp [intOf]; omega
      | false =>
        have hno : allFitT ts vs = false := by
          rw [fit_all HNN.out, List.all_eq_false]
          exact ⟨_, List.mem_of_getElem? HZ.out, by simp [HD.out]⟩
        have HNO := Lib.hid hno
        clear hno
        go_wp2_with ((with_reducible refine (QF.out _).mono ?_); rintro e w5 ⟨rfl, hw5⟩; obtain rfl := hw5)
        go_ret
        exact ⟨by rw [HNO.out]; rfl, rfl⟩
    · have hyes : allFitT ts vs = true := by
        rw [fit_all HNN.out, List.all_eq_true]
        have := HK.out
        rwa [List.take_of_length_le (by rw [List.length_zip]; have := HN.out; omega)] at this
      have HY := Lib.hid hyes
      clear hyes
      go_wp2_with fail
      go_ret
      exact ⟨by rw [HY.out]; rfl, rfl⟩
  · have e0 : ((n : Int) != (n2 : Int)) = true := by simpa using (by omega : ¬ (n : Int) = n2)
    have hno : allFitT ts vs = false := by unfold allFitT; rw [decide_eq_false (by have := HN.out; have := HN2.out; omega)]; rfl
    have HNO := Lib.hid hno
    clear hno
    go_enter Tryd.func80, Tryd.ntmps80
    go_wp2_with fail
    go_ret
    exact ⟨by rw [HNO.out]; rfl, rfl⟩
theorem mayBe_any (w : World) (s t : ByteArray) (d : Bool) (h : sameT s.toList t.toList = d) : Calls Tryd.prog 82 #[.string s, .string t] w fun e w' => e = .returned (.bool d) ∧ w = w' := by
  obtain ⟨x1, hx1⟩ : ∃ x, numT s.toList = x := ⟨_, rfl⟩
  obtain ⟨x2, hx2⟩ : ∃ x, numT t.toList = x := ⟨_, rfl⟩
  obtain ⟨x3, hx3⟩ : ∃ x, (s.toList == t.toList) = x := ⟨_, rfl⟩
  obtain ⟨x4, hx4⟩ : ∃ x, (s.toList == [110, 117, 108, 108]) = x := ⟨_, rfl⟩
  obtain ⟨x5, hx5⟩ : ∃ x, (t.toList == [110, 117, 108, 108]) = x := ⟨_, rfl⟩
  have hd : (!x1 && (!x2 && (x3 || (x4 || x5)))) = d := by rw [← h, ← hx1, ← hx2, ← hx3, ← hx4, ← hx5]; rfl
  have HD := Lib.hid hd
  have Q1 := Lib.hid fun w' => isNumber_any w' s x1 hx1
  have Q2 := Lib.hid fun w' => isNumber_any w' t x2 hx2
  clear h hd hx1 hx2
  cases x1 <;> cases x2 <;> cases x3 <;> cases x4 <;> cases x5
  all_goals
    obtain rfl := HD.out
    clear HD
    go_enter Tryd.func82, Tryd.ntmps82
    go_wp2_with (first | (with_reducible refine (Q1.out _).mono ?_; rintro e w5 ⟨rfl, hw5⟩; obtain rfl := hw5) | (with_reducible refine (Q2.out _).mono ?_; rintro e w5 ⟨rfl, hw5⟩; obtain rfl := hw5))
    go_ret
    exact ⟨rfl, rfl⟩
theorem ofNum_any (w : World) (op : Int) : Calls Tryd.prog 84 #[i64 op] w fun e w' => e = .returned (.tuple #[str (ofNums op).1, str (ofNums op).2]) ∧ w = w' := by
  unfold ofNums
  by_cases h1 : op ≤ 14
  · rw [if_pos h1]
    go_enter Tryd.func84, Tryd.ntmps84
    go_wp2_with fail
    go_ret2
    exact ⟨rfl, rfl⟩
  rw [if_neg h1]
  by_cases h2 : op ≤ 18
  · rw [if_pos h2]
    go_enter Tryd.func84, Tryd.ntmps84
    go_wp2_with fail
    go_ret2
    exact ⟨rfl, rfl⟩
  rw [if_neg h2]
  by_cases h3 : op = 22
  · subst h3
    rw [if_pos rfl]
    go_enter Tryd.func84, Tryd.ntmps84
    go_wp2_with fail
    go_ret2
    exact ⟨rfl, rfl⟩
  rw [if_neg h3]
  have e3 : (op == 22) = false := beq_false_of_ne h3
  go_enter Tryd.func84, Tryd.ntmps84
  go_wp2_with fail
  go_ret2
  exact ⟨rfl, rfl⟩
end Go.Proofs.YtikfncgdjnljiaaDoor.Ty7
