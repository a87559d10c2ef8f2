/-
  Layer 11: package loops' fill: slices.Repeat of one number.
-/
import Derived.Laws.CopyOwn
import Derived.Test.YtiohngbmddfgfaaLpSortL
import Derived.Test.YtiohngbmddfgfaaFlRows
namespace Go.Proofs.Ytiohngbmddfgfaa.Lp11
open Go.RowKit Api Mem Fl9

/-- k of n are laid. -/
def Fr (n k : Nat) (x : Int) : List Value := iC (List.replicate k x) ++ iC (List.replicate (n - k) 0)
theorem fr_len {n k : Nat} {x : Int} (h : k ≤ n) : (Fr n k x).length = n := by simp [Fr]; omega
theorem fr_zero (n : Nat) (x : Int) : Fr n 0 x = List.replicate n (.int .i64 0) := by simp [Fr, iC]
theorem fr_all (n : Nat) (x : Int) : Fr n n x = iC (List.replicate n x) := by simp [Fr]
theorem fr_at {n k j : Nat} {x : Int} (h : j < k) : (Fr n k x)[j]? = some (i64 x) := by
  unfold Fr
  rw [List.getElem?_append_left (by simp; exact h), List.getElem?_map, List.getElem?_replicate, if_pos h]
  rfl
theorem fr_splice {n k m : Nat} {x : Int} (h : k + m ≤ n) : splice (Fr n k x) k (iC (List.replicate m x)) = Fr n (k + m) x := by
  unfold splice Fr iC
  rw [List.map_replicate, List.map_replicate, List.map_replicate, List.map_replicate, List.map_replicate]
  rw [List.take_append_of_le_length (by simp), List.take_of_length_le (by simp), List.length_replicate]
  rw [List.drop_append, List.drop_eq_nil_of_le (by simp), List.nil_append, List.length_replicate, List.drop_replicate]
  rw [← List.append_assoc, List.replicate_append_replicate, show n - k - (k + m - k) = n - (k + m) by omega]
theorem fr_own {w : World} {g base n : Nat} {x : Int} (hg : Own w g 3 (Fr n n x)) (hb : base ≤ g) (hn : n ≤ 1000) : w.ownsRow base 3 1 (.slice (some ⟨g, 0, none⟩) n n) n (iC (List.replicate n x)) :=
  hg.row hb (Nat.le_refl _) (by unfold maxLen; omega) (fr_len (Nat.le_refl _)) (by rw [List.take_of_length_le (by rw [fr_len (Nat.le_refl _)]; exact Nat.le_refl _), fr_all])
/-- 'copy' into a block of the call's own. -/
theorem copy9 {P : Program} (w : World) (T e ty : TypeId) (g o dLen dCap : Nat) (a : Addr) (sLen sCap : Nat) (cur cs : List Value) (hu : P.underlying T = some (.slice e)) (hs : (P.info? e).map (·.size) = some 1) (hg : Own w g e cur)
    (hn : cs.length = Nat.min sLen dLen) (hsrc : ∀ j v, cs[j]? = some v → w.cell? (a.add j) = some v) (hfit : o + cs.length ≤ cur.length) (h1 : ∀ v ∈ cs, v.oneCell' = true) :
    ∃ w2, (Builtin.copy_ #[T, T] ty #[.slice (some ⟨g, o, none⟩) dLen dCap, .slice (some a) sLen sCap]).run P w = .ok (goInt cs.length) w2 ∧ Own w2 g e (splice cur o cs) ∧ Below g w w2 := by
  refine ⟨_, run_copy_row (P := P) w T T ty e g o dLen dCap a sLen sCap cur.toArray e cs hu hs hg hn hsrc (by simpa using hfit) h1, ?_, below_setRow (Below.refl _ _) (Nat.le_refl _) _⟩
  show _ = _
  simpa [splice] using setRow_heap w g _ _ e _ hg
theorem size_int9 : (Try.prog.info? 3).map (·.size) = some 1 := by kernel_rfl
set_option maxRecDepth 100000 in
set_option maxHeartbeats 8000000 in
theorem repeat_any (w : World) (b c n : Nat) (x : Int) (hx : w.cell? ⟨b, 0, none⟩ = some (i64 x)) (hb : b < w.heap.size) (hn : n ≤ 1000) :
    Calls Try.prog 31 #[.slice (some ⟨b, 0, none⟩) 1 c, i64 (n : Int)] w fun e w' => ∃ v, e = .returned v ∧ w'.ownsRow w.heap.size 3 1 v n (iC (List.replicate n x)) ∧ Below w.heap.size w w' := by
  have hmi := fun (w : World) => run_row9 (P := Try.prog) (t := 31) Try.underlying31 info_int9 rfl (by decide) n (by omega) w
  have QM : Hid (∀ w, Calls Try.prog 45 #[.int .u64 1, .int .u64 n] w fun e w' => e = .returned (.tuple #[.int .u64 0, .int .u64 n]) ∧ w' = w) := Lib.hid (fun w => by
    have := Any.bits_Mul Try.lays212 1 n (by omega) (by omega) w
    rw [Nat.one_mul, Nat.div_eq_of_lt (by omega), Nat.mod_eq_of_lt (by omega)] at this
    exact this)
  have e0 : decide ((n : Int) < 0) = false := decide_eq_false (by omega)
  have e1 : decide ((n : Int) > 9223372036854775807) = false := decide_eq_false (by omega)
  have e2 : decide ((9223372036854775807 : Int) < (n : Int)) = false := decide_eq_false (by omega)
  obtain ⟨W, hW⟩ : ∃ W, w.alloc (.cells (List.replicate n (.int .i64 0)).toArray 3) = W := ⟨_, rfl⟩
  have HW := Lib.hid (show w.alloc (.cells (Array.replicate n (.int .i64 0)) 3) = W by rw [← hW]; simp)
  have HH := Lib.hid (show Own W w.heap.size 3 (Fr n 0 x) by rw [← hW, fr_zero]; exact Own.made w _ _)
  have HU := Lib.hid (show Below w.heap.size w W by rw [← hW]; exact (Below.refl _ _).alloc (Nat.le_refl _) _)
  have HX := Lib.hid (show W.cell? ⟨b, 0, none⟩ = some (i64 x) from (HU.out.cell (p := ⟨b, 0, none⟩) hb).trans hx)
  obtain ⟨X1, hX1⟩ : ∃ X1, X1 = iC (List.replicate (min 1 n) x) := ⟨_, rfl⟩
  have HX1 := Lib.hid hX1
  have HL1 := Lib.hid (show X1.length = min 1 n by rw [hX1]; simp)
  clear hx hW hX1
  go_enter Try.func31, Try.ntmps31
  go_wp2_with fail
  refine (QM.out w).mono ?_
  rintro e w1 ⟨rfl, rfl⟩
  go_wp2_with fail
  rw [HW.out]
  obtain ⟨W2, hcp, ho2, hb2⟩ := copy9 (P := Try.prog) W 31 3 3 w1.heap.size 0 n n ⟨b, 0, none⟩ 1 c (Fr n 0 x) X1 Try.underlying31 size_int9 HH.out HL1.out (fun j v hj => by
      rw [HX1.out, List.getElem?_map] at hj
      obtain ⟨y, hy, rfl⟩ := Option.map_eq_some_iff.1 hj
      have hj0 := (List.getElem?_eq_some_iff.1 hy).1
      simp at hj0
      obtain rfl : j = 0 := by omega
      obtain rfl := List.eq_of_mem_replicate (List.mem_of_getElem? hy)
      have e9 : (⟨b, 0, none⟩ : Addr).add 0 = ⟨b, 0, none⟩ := by unfold Addr.add; split <;> simp_all
      rw [e9]; exact HX.out) (by rw [HL1.out, fr_len (Nat.zero_le _)]; omega) (by rw [HX1.out]; intro v hv; obtain ⟨y, _, rfl⟩ := List.mem_map.1 hv; rfl)
  rw [HX1.out, fr_splice (by omega), Nat.zero_add] at ho2
  rw [HL1.out] at hcp
  have HO2 := Lib.hid ho2
  have HB2 := Lib.hid (HU.out.trans hb2)
  obtain ⟨k0, hk0⟩ : ∃ k, min 1 n = k := ⟨_, rfl⟩
  have hk1 : 1 ≤ k0 ∨ n = 0 := by omega
  have hk2 : k0 ≤ n := by omega
  rw [hk0] at HO2 hcp
  clear ho2 hb2 HX1 HL1 hk0
  rw [hcp]
  go_wp2_with fail
  go_loopw [8] (fun kv wr => ∃ k : Nat, k ≤ n ∧ (1 ≤ k ∨ n = 0) ∧ kv = .int .i64 k ∧ Hid (Own wr w1.heap.size 3 (Fr n k x)) ∧ Hid (Below w1.heap.size w1 wr)) (fun kv _ => n - (intOf kv).toNat)
  case atStart => exact ⟨k0, hk2, hk1, rfl, HO2, HB2⟩
  case round =>
  obtain ⟨k, hk, hk1, rfl, HO, HB⟩ := hrel
  by_cases hlt : k < n
  · obtain ⟨X2, hX2⟩ : ∃ X2, X2 = iC (List.replicate (min k (n - k)) x) := ⟨_, rfl⟩
    obtain ⟨W4, hcp, ho2, hb2⟩ := copy9 (P := Try.prog) wr.drew 31 3 3 w1.heap.size k (n - k) (n - k) ⟨w1.heap.size, 0, none⟩ k n (Fr n k x) X2 Try.underlying31 size_int9 HO.out.drew (by rw [hX2]; simp [iC]) (fun j v hj => by
      rw [hX2, List.getElem?_map] at hj
      obtain ⟨y, hy, rfl⟩ := Option.map_eq_some_iff.1 hj
      have hj0 := (List.getElem?_eq_some_iff.1 hy).1
      simp at hj0
      obtain rfl := List.eq_of_mem_replicate (List.mem_of_getElem? hy)
      have e9 : (⟨w1.heap.size, 0, none⟩ : Addr).add j = ⟨w1.heap.size, j, none⟩ := by unfold Addr.add; split <;> simp_all
      rw [e9]
      exact (HO.out.cell j).trans (fr_at (by omega))) (by rw [hX2, fr_len hk]; simp [iC]; omega) (by rw [hX2]; intro v hv; obtain ⟨y, _, rfl⟩ := List.mem_map.1 hv; rfl)
    rw [hX2, fr_splice (by omega)] at ho2
    rw [show X2.length = min k (n - k) by rw [hX2]; simp [iC]] at hcp
    have HO4 := Lib.hid ho2
    have HB4 := Lib.hid (HB.out.drew.trans (hb2.mono (Nat.le_refl _)))
    obtain ⟨m, hm⟩ : ∃ m, min k (n - k) = m := ⟨_, rfl⟩
    have hm1 : 1 ≤ m := by omega
    have hm2 : k + m ≤ n := by omega
    rw [hm] at HO4 hcp
    have e5 : (n : Int) - (k : Int) = ((n - k : Nat) : Int) := by omega
    clear ho2 hb2 hX2 hm
    go_wp2_with fail
    go_region
    go_wp2_with fail
    go_roundw
    case rel => exact ⟨k + m, by omega, by omega, by go_num, HO4, HB4⟩
    case measure => simp [intOf]; omega
  · go_wp2_with fail
    go_ret
    have hke : k = n := by omega
    subst hke
    exact ⟨_, rfl, fr_own HO.out (Nat.le_refl _) hn, HB.out⟩
set_option maxRecDepth 100000 in
set_option maxHeartbeats 8000000 in
theorem fill_any (w : World) (n : Nat) (x : Int) (hn : n ≤ 1000) :
    Calls Try.prog 18 #[i64 (n : Int), i64 x] w fun e w' => ∃ v, e = .returned v ∧ w'.ownsRow w.heap.size 3 1 v n (iC (List.replicate n x)) ∧ Below w.heap.size w w' := by
  obtain ⟨W, hW⟩ : ∃ W, w.alloc (.cells #[i64 x] 3) = W := ⟨_, rfl⟩
  have HU : Below w.heap.size w W := by rw [← hW]; exact (Below.refl _ _).alloc (Nat.le_refl _) _
  have HS : W.heap.size = w.heap.size + 1 := by rw [← hW]; simp
  have HX : W.cell? ⟨w.heap.size, 0, none⟩ = some (i64 x) := by rw [← hW]; exact ((Own.made w 3 [i64 x]).cell 0)
  have QR := Lib.hid (repeat_any W w.heap.size 1 n x HX (by omega) hn)
  have HW := Lib.hid hW
  have HU2 := Lib.hid HU
  clear HX HU hW
  go_enter Try.func18, Try.ntmps18
  go_wp2_with fail
  rw [HW.out]
  refine QR.out.mono ?_
  rintro e w6 ⟨v, rfl, h1, h2⟩
  go_wp2_with fail
  go_ret
  exact ⟨_, rfl, ⟨h1.1, by
    rcases h1.2 with k | ⟨g, cap, cur, e, hb, k⟩
    · exact .inl k
    · exact .inr ⟨g, cap, cur, e, by omega, k⟩⟩, HU2.out.trans (h2.mono (by omega))⟩
end Go.Proofs.Ytiohngbmddfgfaa.Lp11
