/-
  word.readNought, word.read, word.Get, walked.
-/
import Derived.Test.YtfihnnfjkhcgkaaWordRight
import Derived.Test.YtfihnnfjkhcgkaaNumGet
import Derived.Test.YtfihnnfjkhcgkaaFloGet
import Derived.Laws.ResultCell
namespace Go.Proofs.Ytfihnnfjkhcgkaa
open Go.RowKit NumM FloM WordM Mem

def valP (g : A × Bool) : Ending := .returned (.tuple #[val g.1, .bool g.2])

set_option maxHeartbeats 1000000 in
theorem nought_zero (w : World) : Calls Try.prog 34 #[.string ⟨#[48]⟩] w fun e w' => e = .returned (.tuple #[.agg #[.int .i64 2, .string ⟨#[]⟩, .int .i64 0], .bool true]) ∧ Below w.heap.size w w' := by
  go_enter Try.func34, Try.ntmps34
  go_wp2_with fail
  (try simp only [Exit.inBlock, Exit.then])
  refine bodyPost_ret (v := .tuple #[.agg #[.int .i64 2, .string ⟨#[]⟩, .int .i64 0], .bool true]) (by rw [results_cell_tmp rfl]; go_simp) rfl ⟨rfl, one_more _ _⟩

set_option maxHeartbeats 1000000 in
theorem nought_float (s : ByteArray) (n : Int) (b : Bool) (h : (s.toList == [48]) = false) (hg : fgetV s.data.toList = (n, b)) (w : World) :
    Calls Try.prog 34 #[.string s] w fun e w' => e = .returned (.tuple #[.agg #[.int .i64 3, .string ⟨#[]⟩, .int .i64 n], .bool b]) ∧ Below w.heap.size w w' := by
  have gs := fun w => fget_any s w
  rw [hg] at gs
  have Gs := Lib.hid gs
  clear gs hg
  go_enter Try.func34, Try.ntmps34
  go_wp2_with (go_at_call 37; refine (Gs.out _).mono ?_; rintro e w1 ⟨rfl, hb⟩; obtain ⟨hc0, hc1, hc2⟩ := box3 hb; obtain ⟨hz0, hz1, hz2, hlt⟩ := box3s hb)
  (try simp only [Exit.inBlock, Exit.then])
  refine bodyPost_ret (v := .tuple #[.agg #[.int .i64 3, .string ⟨#[]⟩, .int .i64 n], .bool b]) (by rw [results_cell_tmp rfl]; go_simp) rfl ⟨rfl, ?_⟩
  exact (((grow3 (one_more _ _) hb).setCell (Nat.le_refl _) _).setCell (Nat.le_refl _) _).setCell (Nat.le_refl _) _

theorem nought_any (s : ByteArray) (n : Int) (b : Bool) (h : (s.toList == [48]) = false) (hg : fgetV s.data.toList = (n, b)) (w : World) :
    Calls Try.prog 34 #[.string s] w fun e w' => e = .returned (.tuple #[.agg #[.int .i64 3, .string ⟨#[]⟩, .int .i64 n], .bool b]) ∧ Below w.heap.size w w' := nought_float s n b h hg w

theorem put3 {w w1 : World} {g : Nat} {v0 v1 v2 : Value} (hg : w.heap.size ≤ g) (h : Below w.heap.size w w1) : Below w.heap.size w (((w1.setCell ⟨g, 0, none⟩ v0).setCell ⟨g, 1, none⟩ v1).setCell ⟨g, 2, none⟩ v2) :=
  ((h.setCell hg _).setCell hg _).setCell hg _

theorem not_empty (s : ByteArray) (h0 : 0 < s.size) : s.toList.isEmpty = false := by
  rw [ByteArray.toList_eq]
  have : s.data.toList.length = s.size := by rw [Array.length_toList]; rfl
  cases hx : s.data.toList with
  | nil => rw [hx] at this; simp at this; omega
  | cons => rfl

set_option maxHeartbeats 1000000 in
theorem read_empty (w : World) : Calls Try.prog 26 #[.string ⟨#[]⟩] w fun e w' => e = .returned (.tuple #[.agg #[.int .i64 0, .string ⟨#[]⟩, .int .i64 0], .bool false]) ∧ Below w.heap.size w w' := by
  go_enter Try.func26, Try.ntmps26
  go_wp2_with fail
  (try simp only [Exit.inBlock, Exit.then])
  refine bodyPost_ret (v := .tuple #[.agg #[.int .i64 0, .string ⟨#[]⟩, .int .i64 0], .bool false]) (by rw [results_cell_tmp rfl]; go_simp) rfl ⟨rfl, one_more _ _⟩

set_option maxHeartbeats 1000000 in
theorem read_obj (s : ByteArray) (n : Int) (b : Bool) (hm : s.size ≤ maxLen) (h0 : 0 < s.size) (hc : s[0].toNat = 35) (hg : getV s.data.toList.tail = (n, b)) (w : World) :
    Calls Try.prog 26 #[.string s] w fun e w' => e = .returned (.tuple #[.agg #[.int .i64 5, .string ⟨#[]⟩, .int .i64 n], .bool b]) ∧ Below w.heap.size w w' := by
  have gs := fun w => get_any (s.extract 1 s.size) w (by rw [ByteArray.size_extract]; omega)
  rw [cut_one, hg] at gs
  have Gs := Lib.hid gs
  have he := not_empty s h0
  have h1 : ((s[0].toNat : Int) == 35) = true := by rw [hc]; rfl
  unfold maxLen at hm
  clear gs hg hc
  go_enter Try.func26, Try.ntmps26
  go_wp2_with (go_at_call 33; refine (Gs.out _).mono ?_; rintro e w1 ⟨rfl, hb⟩; obtain ⟨hc0, hc1, hc2⟩ := box3 hb; obtain ⟨hz0, hz1, hz2, hlt⟩ := box3s hb)
  (try simp only [Exit.inBlock, Exit.then])
  refine bodyPost_ret (v := .tuple #[.agg #[.int .i64 5, .string ⟨#[]⟩, .int .i64 n], .bool b]) (by rw [results_cell_tmp rfl]; go_simp) rfl ⟨rfl, ?_⟩
  exact put3 (Nat.le_refl _) (grow3 (one_more _ _) hb)

set_option maxHeartbeats 4000000 in
theorem read_num (s : ByteArray) (n : Int) (b : Bool) (hm : s.size ≤ maxLen) (h0 : 0 < s.size) (hc : s[0].toNat = 45 ∨ (49 ≤ s[0].toNat ∧ s[0].toNat ≤ 57)) (hg : getV s.data.toList = (n, b)) (w : World) :
    Calls Try.prog 26 #[.string s] w fun e w' => e = .returned (.tuple #[.agg #[.int .i64 2, .string ⟨#[]⟩, .int .i64 n], .bool b]) ∧ Below w.heap.size w w' := by
  have gs := fun w => get_any s w hm
  rw [hg] at gs
  have Gs := Lib.hid gs
  have he := not_empty s h0
  have hcs : s[0].toNat = 45 ∨ s[0].toNat = 49 ∨ s[0].toNat = 50 ∨ s[0].toNat = 51 ∨ s[0].toNat = 52 ∨ s[0].toNat = 53 ∨ s[0].toNat = 54 ∨ s[0].toNat = 55 ∨ s[0].toNat = 56 ∨ s[0].toNat = 57 := by omega
  clear gs hg hc hm
  rcases hcs with h1 | h1 | h1 | h1 | h1 | h1 | h1 | h1 | h1 | h1
  all_goals
    go_enter Try.func26, Try.ntmps26
    go_wp2_with (go_at_call 33; refine (Gs.out _).mono ?_; rintro e w1 ⟨rfl, hb⟩; obtain ⟨hc0, hc1, hc2⟩ := box3 hb; obtain ⟨hz0, hz1, hz2, hlt⟩ := box3s hb)
    (try simp only [Exit.inBlock, Exit.then])
    refine bodyPost_ret (v := .tuple #[.agg #[.int .i64 2, .string ⟨#[]⟩, .int .i64 n], .bool b]) (by rw [results_cell_tmp rfl]; go_simp) rfl ⟨rfl, ?_⟩
    exact put3 (Nat.le_refl _) (grow3 (one_more _ _) hb)

set_option maxHeartbeats 4000000 in
theorem read_nought (s : ByteArray) (h0 : 0 < s.size) (hc : s[0].toNat = 48) (n : Int) (b : Bool) (k : Int)
    (hq : ∀ w, Calls Try.prog 34 #[.string s] w fun e w' => e = .returned (.tuple #[.agg #[.int .i64 k, .string ⟨#[]⟩, .int .i64 n], .bool b]) ∧ Below w.heap.size w w') (w : World) :
    Calls Try.prog 26 #[.string s] w fun e w' => e = .returned (.tuple #[.agg #[.int .i64 k, .string ⟨#[]⟩, .int .i64 n], .bool b]) ∧ Below w.heap.size w w' := by
  have Gs := Lib.hid hq
  have he := not_empty s h0
  clear hq
  go_enter Try.func26, Try.ntmps26
  go_wp2_with (go_at_call 34; refine (Gs.out _).mono ?_; rintro e w1 ⟨rfl, hb⟩; obtain ⟨hc0, hc1, hc2⟩ := box3 hb; obtain ⟨hz0, hz1, hz2, hlt⟩ := box3s hb)
  (try simp only [Exit.inBlock, Exit.then])
  refine bodyPost_ret (v := .tuple #[.agg #[.int .i64 k, .string ⟨#[]⟩, .int .i64 n], .bool b]) (by rw [results_cell_tmp rfl]; go_simp) rfl ⟨rfl, ?_⟩
  exact put3 (Nat.le_refl _) (grow3 (one_more _ _) hb)

set_option maxHeartbeats 4000000 in
theorem read_null (w : World) :
    Calls Try.prog 26 #[.string ⟨#[110, 117, 108, 108]⟩] w fun e w' => e = .returned (.tuple #[.agg #[.int .i64 4, .string ⟨#[]⟩, .int .i64 0], .bool true]) ∧ Below w.heap.size w w' := by
  go_enter Try.func26, Try.ntmps26
  go_wp2_with fail
  (try simp only [Exit.inBlock, Exit.then])
  refine bodyPost_ret (v := .tuple #[.agg #[.int .i64 4, .string ⟨#[]⟩, .int .i64 0], .bool true]) (by rw [results_cell_tmp rfl]; go_simp) rfl ⟨rfl, one_more _ _⟩

set_option maxHeartbeats 4000000 in
theorem read_name (s : ByteArray) (h0 : 0 < s.size) (c1 : s[0].toNat ≠ 35) (c2 : s[0].toNat ≠ 45) (c3 : s[0].toNat < 48 ∨ 57 < s[0].toNat) (hn : (s.toList == [110, 117, 108, 108]) = false) (w : World) :
    Calls Try.prog 26 #[.string s] w fun e w' => e = .returned (.tuple #[.agg #[.int .i64 1, .string s, .int .i64 0], .bool true]) ∧ Below w.heap.size w w' := by
  have he := not_empty s h0
  have q35 : ((s[0].toNat : Int) == 35) = false := by rw [beq_eq_false_iff_ne]; omega
  have q45 : ((s[0].toNat : Int) == 45) = false := by rw [beq_eq_false_iff_ne]; omega
  have q48 : ((s[0].toNat : Int) == 48) = false := by rw [beq_eq_false_iff_ne]; omega
  have q49 : ((s[0].toNat : Int) == 49) = false := by rw [beq_eq_false_iff_ne]; omega
  have q50 : ((s[0].toNat : Int) == 50) = false := by rw [beq_eq_false_iff_ne]; omega
  have q51 : ((s[0].toNat : Int) == 51) = false := by rw [beq_eq_false_iff_ne]; omega
  have q52 : ((s[0].toNat : Int) == 52) = false := by rw [beq_eq_false_iff_ne]; omega
  have q53 : ((s[0].toNat : Int) == 53) = false := by rw [beq_eq_false_iff_ne]; omega
  have q54 : ((s[0].toNat : Int) == 54) = false := by rw [beq_eq_false_iff_ne]; omega
  have q55 : ((s[0].toNat : Int) == 55) = false := by rw [beq_eq_false_iff_ne]; omega
  have q56 : ((s[0].toNat : Int) == 56) = false := by rw [beq_eq_false_iff_ne]; omega
  have q57 : ((s[0].toNat : Int) == 57) = false := by rw [beq_eq_false_iff_ne]; omega
  clear c1 c2 c3
  rcases Bool.eq_false_or_eq_true ((s[0].toNat : Int) == 110) with q110 | q110
  all_goals
    go_enter Try.func26, Try.ntmps26
    go_wp2_with fail
    (try simp only [Exit.inBlock, Exit.then])
    refine bodyPost_ret (v := .tuple #[.agg #[.int .i64 1, .string s, .int .i64 0], .bool true]) (by rw [results_cell_tmp rfl]; go_simp) rfl ⟨rfl, one_more _ _⟩

theorem head_split (s : ByteArray) (h0 : 0 < s.size) : ∃ t, s.data.toList = s[0] :: t := by
  have hh := head_of s h0
  cases hx : s.data.toList with
  | nil => rw [hx] at hh; simp at hh
  | cons c t => rw [hx] at hh; exact ⟨t, by rw [Option.some.inj hh]⟩
theorem u8_is {c d : UInt8} (h : c.toNat = d.toNat) : c = d := UInt8.toNat_inj.1 h

theorem wread_any (s : ByteArray) (hm : s.size ≤ maxLen) (w : World) :
    Calls Try.prog 26 #[.string s] w fun e w' => e = .returned (.tuple #[val (wread s).1, .bool (wread s).2]) ∧ Below w.heap.size w w' := by
  by_cases h0 : s.size = 0
  · have hs : s = ⟨#[]⟩ := by
      apply ByteArray.ext
      exact Array.eq_empty_of_size_eq_zero h0
    subst hs
    exact read_empty w
  · have h1 : 0 < s.size := by omega
    obtain ⟨t, ht⟩ := head_split s h1
    unfold wread
    rw [ht]
    simp only
    split
    · rename_i hc
      exact read_obj s _ _ hm h1 (by rw [hc]; rfl) (by rw [ht]; rfl) w
    · rename_i n35
      split
      · rename_i hc
        refine read_num s _ _ hm h1 ?_ (by rw [ht]) w
        rcases hc with hc | hc
        · left; rw [hc]; rfl
        · right; exact hc
      · rename_i nnum
        split
        · rename_i hc
          split
          · rename_i h48
            have hs : s = ⟨#[48]⟩ := by rw [← bytes_of s, ht, h48]
            subst hs
            exact read_nought _ h1 rfl _ _ _ (fun w => nought_zero w) w
          · rename_i h48
            refine read_nought s h1 (by rw [hc]; rfl) _ _ _ (fun w => nought_float s _ _ ?_ (by rw [ht]) w) w
            rw [ByteArray.toList_eq, ht]
            simpa using h48
        · rename_i n48
          have m48 : s[0].toNat ≠ 48 := fun h => n48 (u8_is h)
          split
          · rename_i hn
            have hs : s = ⟨#[110, 117, 108, 108]⟩ := by rw [← bytes_of s, ht, hn]; rfl
            subst hs
            exact read_null w
          · rename_i hn
            refine read_name s h1 (fun h => n35 (u8_is h)) (fun h => nnum (.inl (u8_is h))) (by omega) ?_ w
            rw [ByteArray.toList_eq, ht, beq_eq_false_iff_ne]
            exact hn
end Go.Proofs.Ytfihnnfjkhcgkaa
