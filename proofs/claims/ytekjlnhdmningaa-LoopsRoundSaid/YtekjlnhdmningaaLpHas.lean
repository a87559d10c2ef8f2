/-
  Layer 11: the law's has; how many points two loops share.
-/
import Derived.Test.YtekjlnhdmningaaLaw11
namespace Go.Proofs.Ytekjlnhdmningaa.Lp11
open Go.RowKit Api Mem Fl9 Dm10

set_option maxRecDepth 100000 in
set_option maxHeartbeats 8000000 in
theorem has_any (lo hi : Nat) (w : World) (v : Value) (l : List Int) (hv : Ints lo hi w v l) (hh : hi ≤ w.heap.size) (x : Int) :
    Calls Try.prog 21 #[v, i64 x] w fun e w' => e = .returned (.bool (decide (x ∈ l))) ∧ Below w.heap.size w w' := by
  obtain ⟨A1, k1, rfl⟩ := Row.form hv
  have hla : l.length ≤ 4611686018427387903 := by obtain ⟨_, _, _, h, _⟩ := Row.get hv; exact h
  have HV := Lib.hid hv
  clear hv
  go_enter Try.func21, Try.ntmps21
  go_wp2_with fail
  go_loopw [5] (fun kv wr => ∃ k : Nat, k ≤ l.length ∧ kv = .int .i64 k ∧ Hid (x ∉ l.take k) ∧ Hid (Below w.heap.size w wr)) (fun kv _ => l.length - (intOf kv).toNat)
  case atStart => exact ⟨0, Nat.zero_le _, rfl, Lib.hid (by simp), Lib.hid (Below.refl _ _)⟩
  case round =>
  obtain ⟨k, hk, rfl, HN, HBr⟩ := hrel
  by_cases hlt : k < l.length
  · obtain ⟨y, hy⟩ : ∃ y, l[k]? = some y := ⟨_, List.getElem?_eq_getElem hlt⟩
    obtain ⟨b1, o1, rfl⟩ := addr_of9 HV.out (by omega)
    obtain ⟨c1, _, rfl, n1⟩ := cell_of HV.out hy (HBr.out.mono hh)
    have m1 := n1 _ rfl
    have HT := Lib.hid (take_nx hy)
    have HY := Lib.hid hy
    clear n1 hy
    by_cases e : y = x
    · have t1 : (y == x) = true := by simpa using e
      have HYES := Lib.hid (show decide (x ∈ l) = true from decide_eq_true (by rw [← e]; exact List.mem_of_getElem? HY.out))
      clear e
      go_wp2_with fail
      go_ret
      exact ⟨by rw [HYES.out]; rfl, HBr.out⟩
    · have t1 : (y == x) = false := by simpa using e
      have HN2 := Lib.hid (show x ∉ l.take (k + 1) from fun hx => by
        rw [HT.out] at hx
        rcases List.mem_append.1 hx with hx | hx
        · exact HN.out hx
        · rw [List.mem_singleton] at hx
          exact e hx.symm)
      clear e
      go_wp2_with fail
      go_roundw
      case rel => exact ⟨k + 1, by omega, by go_num, HN2, HBr⟩
      case measure => simp [intOf]; omega
  · have HNO := Lib.hid (show decide (x ∈ l) = false from decide_eq_false (by have := HN.out; rwa [List.take_of_length_le (by omega)] at this))
    go_wp2_with fail
    go_ret
    exact ⟨by rw [HNO.out]; rfl, HBr.out⟩
/-- who is in both. -/
def both (a b : List Nat) : List Nat := a.filter fun x => decide (x ∈ b)
theorem both_count {g : List (List Int)} {x1 x2 : LpT} (h1 : x1 ∈ loopsV g) (h2 : x2 ∈ loopsV g) : (both x1.2.1 x2.2.1).length = 0 ∨ (both x1.2.1 x2.2.1).length = x1.2.1.length ∨ (both x1.2.1 x2.2.1).length = x2.2.1.length := by
  obtain ⟨⟨b1, hb1⟩, e1⟩ := loopsV_mem.1 h1
  obtain ⟨⟨b2, hb2⟩, e2⟩ := loopsV_mem.1 h2
  have c1 := hb1.2.2.come
  have c2 := hb2.2.2.come
  have ea : x1.2.1 = bodyL g x1.1 := by rw [e1]
  have eb : x2.2.1 = bodyL g x2.1 := by rw [e2]
  rw [ea, eb]
  generalize x1.1 = p at *
  generalize x2.1 = q at *
  by_cases hz : (both (bodyL g p) (bodyL g q)).length = 0
  · exact .inl hz
  · right
    obtain ⟨y, hy⟩ := List.exists_mem_of_length_pos (Nat.pos_of_ne_zero hz)
    unfold both at hy
    obtain ⟨y1, y2⟩ := List.mem_filter.1 hy
    rw [decide_eq_true_iff] at y2
    rcases nest c1 c2 ((bodyL_mem c1).1 y1) ((bodyL_mem c2).1 y2) with k | k
    · right
      have : both (bodyL g p) (bodyL g q) = bodyL g q := by
        unfold both bodyL
        rw [List.filter_filter]
        apply List.filter_congr
        intro z hz
        rw [Bool.eq_iff_iff, Bool.and_eq_true, decide_eq_true_iff]
        have hzl := List.mem_range.1 hz
        constructor
        · rintro ⟨h3, _⟩
          exact (List.mem_filter.1 h3).2
        · intro h3
          refine ⟨List.mem_filter.2 ⟨hz, h3⟩, ?_⟩
          have h5 := k z ((bodyB_iff hzl).1 h3)
          exact (bodyB_iff hzl).2 h5
      rw [this]
    · left
      have : both (bodyL g p) (bodyL g q) = bodyL g p := by
        unfold both
        apply List.filter_eq_self.2
        intro z hz
        rw [decide_eq_true_iff]
        exact (bodyL_mem c2).2 (k z ((bodyL_mem c1).1 hz))
      rw [this]
theorem both_next {a b : List Nat} {j x : Nat} (h : a[j]? = some x) : (both (a.take (j + 1)) b).length = (both (a.take j) b).length + if x ∈ b then 1 else 0 := by
  obtain ⟨h1, h2⟩ := List.getElem?_eq_some_iff.1 h
  unfold both
  rw [List.take_succ_eq_append_getElem h1, h2, List.filter_append, List.length_append]
  congr 1
  by_cases e : x ∈ b
  · rw [if_pos e, List.filter_cons_of_pos (by simpa using e)]; rfl
  · rw [if_neg e, List.filter_cons_of_neg (by simpa using e)]; rfl
end Go.Proofs.Ytekjlnhdmningaa.Lp11
