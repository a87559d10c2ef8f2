/-
  What the document's own Put and Get do, walked.
-/
import Derived.Test.YtfihnnfjkhcgkaaRef01
import Derived.Test.YtfihnnfjkhcgkaaNumGet
namespace Go.Proofs.Ytfihnnfjkhcgkaa.R01
open Go.RowKit NumM Mem

theorem info_u8 : (Try.prog.info? 5).map (fun i => (i.zero, i.size, i.bytes)) = some (some (.int .u8 0), 1, 1) := by kernel_rfl

theorem own_cons {w : World} {base n r : Nat} {v : Value} {l : List UInt8} (h : w.ownsRow base 5 1 v n ([.int .u8 (48 + (r : Int) % 10)] ++ l.map fun c => .int .u8 (c.toNat : Int))) :
    w.ownsRow base 5 1 v n ((dig r :: l).map fun c => .int .u8 (c.toNat : Int)) := by
  rw [List.map_cons, dig_val]; exact h

theorem str_cons {w : World} {base n r : Nat} {v : Value} {l : List UInt8} (h : w.ownsRow base 5 1 v n ([.int .u8 (48 + (r : Int) % 10)] ++ l.map fun c => .int .u8 (c.toNat : Int))) :
    (convert 43 9 v).run Try.prog w = .ok (.string ⟨(dig r :: l).toArray⟩) w :=
  own_string w 43 9 5 Try.underlying43 Try.underlying5 Try.underlying9 (dig r :: l) (by simp) (own_cons h)

theorem fits_next {r c : Nat} (hc : c ≤ 18) (h : r < 10 ^ (19 - c)) (hz : ¬ r / 10 = 0) : c + 1 ≤ 18 ∧ r / 10 < 10 ^ (19 - (c + 1)) := by
  have h2 : 10 ^ (19 - c) = 10 ^ (19 - (c + 1)) * 10 := by rw [← Nat.pow_succ]; congr 1; omega
  refine ⟨?_, by omega⟩
  by_cases h3 : c = 18
  · subst h3; simp at h; omega
  · omega

set_option maxRecDepth 20000 in
set_option maxHeartbeats 1000000 in
theorem put_any (n : Int) (w : World) (h : In n) : Calls Try.prog 24 #[.int .i64 n] w fun e w' => e = .returned (.string ⟨(dec n).toArray⟩) ∧ Below w.heap.size w w' := by
  have hs : n.natAbs < 10 ^ (19 - 0) := by have h1 := h.1; have h2 := h.2; omega
  obtain ⟨i0, hi, hz0, hz1, hz2⟩ := info_parts info_u8
  have Hs := Lib.hid hs
  have Hi := Lib.hid hi
  have Hz0 := Lib.hid hz0
  have Hz1 := Lib.hid hz1
  have Hz2 := Lib.hid hz2
  clear hs hi hz0 hz1 hz2
  go_enter Try.func24, Try.ntmps24
  go_wp2_with (go_at_call 32; refine (size_any _ _ h).mono ?_; rintro e w' ⟨rfl, rfl⟩)
  go_loopw [3, 4] (fun b m wr => ∃ (r : Nat) (l : List UInt8), m = .int .u64 (r : Int) ∧ Digs n.natAbs r l ∧ l.length ≤ 18 ∧ r < 10 ^ (19 - l.length) ∧
      wr.ownsRow w.heap.size 5 1 b l.length (l.map fun c => .int .u8 (c.toNat : Int)) ∧ Below w.heap.size w wr) (fun _ m _ => (intOf m).toNat)
  case atStart => exact ⟨n.natAbs, [], rfl, Digs.start _, by simp, Hs.out, ⟨by simp, .inl ⟨rfl, rfl⟩⟩, Below.refl _ _⟩
  case round =>
    rename_i b _
    obtain ⟨r, l, rfl, hd, hl, hr, ho, hb⟩ := hrel
    have hr64 : (r : Int) < 18446744073709551616 := by
      have : 10 ^ (19 - l.length) ≤ 10 ^ 19 := Nat.pow_le_pow_right (by decide) (by omega)
      omega
    have Ho := Lib.hid ho
    have Hd := Lib.hid hd
    have Hr := Lib.hid hr
    clear ho hd hr
    have hw : w.heap.size ≤ wr.heap.size := hb.size
    have hone : ((wr.alloc (.cells #[.int .u8 (48 + (r : Int) % 10)] 5)).ownsRow w.heap.size 5 1 (.slice (some ⟨wr.heap.size, 0, none⟩) 1 1) 1 [.int .u8 (48 + (r : Int) % 10)]) :=
      (Own.made wr 5 [.int .u8 (48 + (r : Int) % 10)]).row hw (by omega) (by decide) rfl rfl
    have hcs : ∀ u ∈ l.map (fun c : UInt8 => Value.int .u8 (c.toNat : Int)), u.oneCell' = true := by
      intro u hu; obtain ⟨c, _, rfl⟩ := List.mem_map.1 hu; rfl
    have Hone := Lib.hid hone
    have Hcs := Lib.hid hcs
    have Hw := Lib.hid hw
    clear hone hcs hw
    by_cases hz : r / 10 = 0
    · have hz1 : ((r : Int) / 10 == 0) = true := by simp; omega
      have Hz := Lib.hid hz
      clear hz
      by_cases hn : n < 0
      · have hfin : (⟨#[45]⟩ : ByteArray) ++ ⟨(dig r :: l).toArray⟩ = ⟨(dec n).toArray⟩ := by
          rw [dec, if_pos hn, Hd.out.last Hz.out]; apply ByteArray.ext; rw [ByteArray.data_append]; simp
        have Hfin := Lib.hid hfin
        clear hfin
        go_wp2_with (at_builtin; refine wpList_app (w := wr.alloc (.cells #[.int .u8 (48 + (r : Int) % 10)] 5)) rfl _ _ 43 rfl w.heap.size 5 i0 (.int .u8 0) 1 1 Try.underlying43 Hi.out Hz0.out Hz1.out Hz2.out rfl (by decide) _ 1 [.int .u8 (48 + (r : Int) % 10)] rfl Hone.out _ l.length _ rfl (Ho.out.alloc _) Hcs.out (by unfold maxLen; omega) (by omega) (by have := Hw.out; simp; omega) ?_; intro v' w1 hown1 hb1; have hcv := str_cons hown1; have Hb1 := Lib.hid hb1; clear hown1 hb1)
        go_ret
        exact ⟨congrArg (fun b => Ending.returned (Value.string b)) Hfin.out, (hb.alloc Hw.out _).trans Hb1.out⟩
      · have hfin : (⟨(dig r :: l).toArray⟩ : ByteArray) = ⟨(dec n).toArray⟩ := by
          rw [dec, if_neg hn, Hd.out.last Hz.out]
        have Hfin := Lib.hid hfin
        clear hfin
        go_wp2_with (at_builtin; refine wpList_app (w := wr.alloc (.cells #[.int .u8 (48 + (r : Int) % 10)] 5)) rfl _ _ 43 rfl w.heap.size 5 i0 (.int .u8 0) 1 1 Try.underlying43 Hi.out Hz0.out Hz1.out Hz2.out rfl (by decide) _ 1 [.int .u8 (48 + (r : Int) % 10)] rfl Hone.out _ l.length _ rfl (Ho.out.alloc _) Hcs.out (by unfold maxLen; omega) (by omega) (by have := Hw.out; simp; omega) ?_; intro v' w1 hown1 hb1; have hcv := str_cons hown1; have Hb1 := Lib.hid hb1; clear hown1 hb1)
        go_ret
        exact ⟨congrArg (fun b => Ending.returned (Value.string b)) Hfin.out, (hb.alloc Hw.out _).trans Hb1.out⟩
    · have hz1 : ((r : Int) / 10 == 0) = false := by simp; omega
      have Hz := Lib.hid hz
      clear hz
      go_wp2_with (at_builtin; refine wpList_app (w := wr.alloc (.cells #[.int .u8 (48 + (r : Int) % 10)] 5)) rfl _ _ 43 rfl w.heap.size 5 i0 (.int .u8 0) 1 1 Try.underlying43 Hi.out Hz0.out Hz1.out Hz2.out rfl (by decide) _ 1 [.int .u8 (48 + (r : Int) % 10)] rfl Hone.out _ l.length _ rfl (Ho.out.alloc _) Hcs.out (by unfold maxLen; omega) (by omega) (by have := Hw.out; simp; omega) ?_; intro v' w1 hown1 hb1)
      go_roundw
      case rel =>
        obtain ⟨f1, f2⟩ := fits_next hl Hr.out Hz.out
        refine ⟨r / 10, dig r :: l, by go_num, Hd.out.more Hz.out, by simpa using f1, by simpa using f2, ?_, (hb.alloc Hw.out _).trans hb1⟩
        rw [List.length_cons, Nat.add_comm]
        exact own_cons hown1
      case measure =>
        have := Hz.out
        simp [intOf]; omega

theorem ustep_eq (n : Int) (c : UInt8) : IntKind.u64.wrap (IntKind.u64.wrap (IntKind.u64.wrap (n * 10) + IntKind.u64.wrap (c.toNat : Int)) - 48) = uStep n c := by
  unfold uStep; rw [wu64, wu64, wu64, wu64]; omega
theorem ustep_eq' (n : Int) (c : UInt8) : IntKind.u64.wrap (IntKind.u64.wrap (IntKind.u64.wrap (n * 10) + (c.toNat : Int)) - 48) = uStep n c := by
  unfold uStep; rw [wu64, wu64, wu64]; omega
theorem tail_next (s : ByteArray) (k : Nat) (h0 : 0 < k) (h : k < s.size) : (s.data.toList.take (k + 1)).tail = (s.data.toList.take k).tail ++ [s[k]] := by
  rw [take_next s k h, List.tail_append_of_ne_nil]
  intro e
  have hl := congrArg List.length e
  rw [List.length_take, Array.length_toList, List.length_nil] at hl
  have hsz : s.data.size = s.size := rfl
  omega
theorem take_end (s : ByteArray) (k : Nat) (h2 : k ≤ 30) (h : ¬ (k < s.size ∧ k < 30)) : s.data.toList.take k = s.data.toList.take 30 := by
  by_cases h3 : k = 30
  · rw [h3]
  · have h4 : s.size ≤ k := by
      rcases Nat.lt_or_ge k s.size with h4 | h4
      · exact absurd ⟨h4, by omega⟩ h
      · exact h4
    have e1 : s.data.toList.take k = s.data.toList := List.take_of_length_le (by simpa using h4)
    have e2 : s.data.toList.take 30 = s.data.toList := List.take_of_length_le (by rw [Array.length_toList]; exact Nat.le_trans h4 h2)
    rw [e1, e2]

set_option maxHeartbeats 4000000 in
theorem get_neg (s : ByteArray) (w : World) (hm : s.size ≤ maxLen) (h0 : 0 < s.size) (h : s[0] = 45) :
    Calls Try.prog 27 #[.string s] w fun e w' => e = .returned (.tuple #[.int .i64 (getR s.data.toList).1, .bool (getR s.data.toList).2]) ∧ Below w.heap.size w w' := by
  unfold maxLen at hm
  have hv : readR s.data.toList = wrap64 (-ru (s.data.toList.take 30).tail) := by
    unfold readR
    rw [if_pos (by rw [head_of s h0, h])]
  have Hv := Lib.hid hv
  have h1 : ((s[0].toNat : Int) == 45) = true := by rw [u8_eq]; simpa using h
  obtain ⟨g, hg, hg2⟩ : ∃ g : Int × Bool, g = getR s.data.toList ∧ (dec (readR s.data.toList) = s.data.toList ∧ g = (readR s.data.toList, true) ∨ ¬ dec (readR s.data.toList) = s.data.toList ∧ g = (0, false)) := by
    refine ⟨_, rfl, ?_⟩
    unfold getR
    by_cases hd : dec (readR s.data.toList) = s.data.toList
    · left; exact ⟨hd, if_pos hd⟩
    · right; exact ⟨hd, if_neg hd⟩
  rw [← hg]
  have Hg2 := Lib.hid hg2
  have Hi := Lib.hid (in_readR s.data.toList)
  clear hv h hg hg2
  go_enter Try.func27, Try.ntmps27
  go_wp2
  go_loop [4, 5] (fun n i => ∃ k : Nat, k ≤ s.size ∧ k ≤ 30 ∧ i = .int .i64 k ∧ n = .int .u64 (ru ((s.data.toList.take k).tail))) (fun _ i => s.size - (intOf i).toNat)
  case atStart => exact ⟨0, Nat.zero_le _, Nat.zero_le _, rfl, rfl⟩
  case round =>
    obtain ⟨k, hk, hk30, rfl, rfl⟩ := hrel
    by_cases hlt : k < s.size ∧ k < 30
    · obtain ⟨hlt1, hlt2⟩ := hlt
      by_cases hz : k = 0
      · subst hz
        go_wp2
        go_round
        case rel => exact ⟨1, by omega, by omega, rfl, u64_eq (by cases hx : s.data.toList <;> rfl)⟩
        case measure => simp [intOf]; omega
      · have hz1 : ((k : Int) == 0) = false := by simp; omega
        have hz2 : 0 < k := by omega
        go_wp2
        go_round
        case rel => exact ⟨k + 1, by omega, by omega, by go_num, u64_eq (by rw [tail_next s k hz2 hlt1, ru_snoc]; first | exact ustep_eq _ _ | exact ustep_eq' _ _)⟩
        case measure => simp [intOf]; omega
    · have hpos : 0 < (k : Int) ∨ k = 0 := by omega
      have hq : wrap64 (IntKind.u64.wrap (-ru ((s.data.toList.take k).tail))) = readR s.data.toList := by rw [Hv.out, take_end s k hk30 hlt, wrap_u]
      rcases Hg2.out with ⟨hd, rfl⟩ | ⟨hd, rfl⟩
      · have hc : (!dec (readR s.data.toList) == s.toList) = false := by rw [ByteArray.toList_eq]; simpa using hd
        clear hd hpos
        by_cases hk' : k < s.size
        · have hk3 : k = 30 := by omega
          have hk4 : 30 ≤ k := by omega
          clear hk3 hlt hk
          go_wp2_with (first | (go_at_call 35; refine (half_any _ _).mono ?_; rintro e w' ⟨rfl, rfl⟩) | (go_at_call 24; refine (put_any _ _ Hi.out).mono ?_; rintro e w' ⟨rfl, hb⟩))
          go_ret2
          exact ⟨rfl, hb⟩
        · have hk4 : s.size ≤ k := by omega
          clear hlt hk hk'
          go_wp2_with (first | (go_at_call 35; refine (half_any _ _).mono ?_; rintro e w' ⟨rfl, rfl⟩) | (go_at_call 24; refine (put_any _ _ Hi.out).mono ?_; rintro e w' ⟨rfl, hb⟩))
          go_ret2
          exact ⟨rfl, hb⟩
      · have hc : (!dec (readR s.data.toList) == s.toList) = true := by rw [ByteArray.toList_eq]; simpa using hd
        clear hd hpos
        by_cases hk' : k < s.size
        · have hk3 : k = 30 := by omega
          have hk4 : 30 ≤ k := by omega
          clear hk3 hlt hk
          go_wp2_with (first | (go_at_call 35; refine (half_any _ _).mono ?_; rintro e w' ⟨rfl, rfl⟩) | (go_at_call 24; refine (put_any _ _ Hi.out).mono ?_; rintro e w' ⟨rfl, hb⟩))
          go_ret2
          exact ⟨rfl, hb⟩
        · have hk4 : s.size ≤ k := by omega
          clear hlt hk hk'
          go_wp2_with (first | (go_at_call 35; refine (half_any _ _).mono ?_; rintro e w' ⟨rfl, rfl⟩) | (go_at_call 24; refine (put_any _ _ Hi.out).mono ?_; rintro e w' ⟨rfl, hb⟩))
          go_ret2
          exact ⟨rfl, hb⟩

set_option maxHeartbeats 4000000 in
theorem get_pos (s : ByteArray) (w : World) (hm : s.size ≤ maxLen) (h0 : 0 < s.size) (h : ¬ s[0] = 45) :
    Calls Try.prog 27 #[.string s] w fun e w' => e = .returned (.tuple #[.int .i64 (getR s.data.toList).1, .bool (getR s.data.toList).2]) ∧ Below w.heap.size w w' := by
  unfold maxLen at hm
  have hv : readR s.data.toList = wrap64 (ru (s.data.toList.take 30)) := by
    unfold readR
    rw [if_neg (by rw [head_of s h0]; simpa using h)]
  have Hv := Lib.hid hv
  have h1 : ((s[0].toNat : Int) == 45) = false := by rw [u8_eq]; simpa using h
  obtain ⟨g, hg, hg2⟩ : ∃ g : Int × Bool, g = getR s.data.toList ∧ (dec (readR s.data.toList) = s.data.toList ∧ g = (readR s.data.toList, true) ∨ ¬ dec (readR s.data.toList) = s.data.toList ∧ g = (0, false)) := by
    refine ⟨_, rfl, ?_⟩
    unfold getR
    by_cases hd : dec (readR s.data.toList) = s.data.toList
    · left; exact ⟨hd, if_pos hd⟩
    · right; exact ⟨hd, if_neg hd⟩
  rw [← hg]
  have Hg2 := Lib.hid hg2
  have Hi := Lib.hid (in_readR s.data.toList)
  clear hv h hg hg2
  go_enter Try.func27, Try.ntmps27
  go_wp2
  go_loop [4, 5] (fun n i => ∃ k : Nat, k ≤ s.size ∧ k ≤ 30 ∧ i = .int .i64 k ∧ n = .int .u64 (ru (s.data.toList.take k))) (fun _ i => s.size - (intOf i).toNat)
  case atStart => exact ⟨0, Nat.zero_le _, Nat.zero_le _, rfl, rfl⟩
  case round =>
    obtain ⟨k, hk, hk30, rfl, rfl⟩ := hrel
    by_cases hlt : k < s.size ∧ k < 30
    · obtain ⟨hlt1, hlt2⟩ := hlt
      by_cases hz : k = 0
      · subst hz
        go_wp2
        go_round
        case rel => exact ⟨1, by omega, by omega, rfl, u64_eq (by rw [show (1 : Nat) = 0 + 1 from rfl, take_next s 0 h0, ru_snoc, ← ustep_eq]; rfl)⟩
        case measure => simp [intOf]; omega
      · have hz1 : ((k : Int) == 0) = false := by simp; omega
        have hz2 : 0 < k := by omega
        go_wp2
        go_round
        case rel => exact ⟨k + 1, by omega, by omega, by go_num, u64_eq (by rw [take_next s k hlt1, ru_snoc]; first | exact ustep_eq _ _ | exact ustep_eq' _ _)⟩
        case measure => simp [intOf]; omega
    · have hpos : 0 < (k : Int) ∨ k = 0 := by omega
      have hq : wrap64 (ru (s.data.toList.take k)) = readR s.data.toList := by rw [Hv.out, take_end s k hk30 hlt]
      rcases Hg2.out with ⟨hd, rfl⟩ | ⟨hd, rfl⟩
      · have hc : (!dec (readR s.data.toList) == s.toList) = false := by rw [ByteArray.toList_eq]; simpa using hd
        clear hd hpos
        by_cases hk' : k < s.size
        · have hk3 : k = 30 := by omega
          have hk4 : 30 ≤ k := by omega
          clear hk3 hlt hk
          go_wp2_with (first | (go_at_call 35; refine (half_any _ _).mono ?_; rintro e w' ⟨rfl, rfl⟩) | (go_at_call 24; refine (put_any _ _ Hi.out).mono ?_; rintro e w' ⟨rfl, hb⟩))
          go_ret2
          exact ⟨rfl, hb⟩
        · have hk4 : s.size ≤ k := by omega
          clear hlt hk hk'
          go_wp2_with (first | (go_at_call 35; refine (half_any _ _).mono ?_; rintro e w' ⟨rfl, rfl⟩) | (go_at_call 24; refine (put_any _ _ Hi.out).mono ?_; rintro e w' ⟨rfl, hb⟩))
          go_ret2
          exact ⟨rfl, hb⟩
      · have hc : (!dec (readR s.data.toList) == s.toList) = true := by rw [ByteArray.toList_eq]; simpa using hd
        clear hd hpos
        by_cases hk' : k < s.size
        · have hk3 : k = 30 := by omega
          have hk4 : 30 ≤ k := by omega
          clear hk3 hlt hk
          go_wp2_with (first | (go_at_call 35; refine (half_any _ _).mono ?_; rintro e w' ⟨rfl, rfl⟩) | (go_at_call 24; refine (put_any _ _ Hi.out).mono ?_; rintro e w' ⟨rfl, hb⟩))
          go_ret2
          exact ⟨rfl, hb⟩
        · have hk4 : s.size ≤ k := by omega
          clear hlt hk hk'
          go_wp2_with (first | (go_at_call 35; refine (half_any _ _).mono ?_; rintro e w' ⟨rfl, rfl⟩) | (go_at_call 24; refine (put_any _ _ Hi.out).mono ?_; rintro e w' ⟨rfl, hb⟩))
          go_ret2
          exact ⟨rfl, hb⟩

set_option maxHeartbeats 1000000 in
theorem get_none (s : ByteArray) (w : World) (h0 : s.size = 0) :
    Calls Try.prog 27 #[.string s] w fun e w' => e = .returned (.tuple #[.int .i64 (getR s.data.toList).1, .bool (getR s.data.toList).2]) ∧ Below w.heap.size w w' := by
  have hs : s = ⟨[].toArray⟩ := by
    have : s = ByteArray.empty := by simpa using h0
    rw [this]; rfl
  subst hs
  rw [show getR (⟨[].toArray⟩ : ByteArray).data.toList = (0, false) from by decide +kernel]
  have pz := fun w => put_any 0 w (by unfold In; omega)
  rw [show dec 0 = [48] from by decide +kernel] at pz
  have Pz := Lib.hid pz
  clear pz h0
  go_enter Try.func27, Try.ntmps27
  go_wp2
  go_loop [4, 5] (fun n i => i = .int .i64 0 ∧ n = .int .u64 0) (fun _ i => 1)
  case atStart => exact ⟨rfl, rfl⟩
  case round =>
    obtain ⟨rfl, rfl⟩ := hrel
    have hw : wrap64 0 = 0 := by rw [w64]; omega
    go_wp2_with (first | (go_at_call 35; refine (half_any _ _).mono ?_; rintro e w' ⟨rfl, rfl⟩) | (go_at_call 24; refine (Pz.out _).mono ?_; rintro e w' ⟨rfl, hb⟩))
    go_ret2
    exact ⟨rfl, hb⟩

theorem get_any (s : ByteArray) (w : World) (hm : s.size ≤ maxLen) :
    Calls Try.prog 27 #[.string s] w fun e w' => e = .returned (.tuple #[.int .i64 (getR s.data.toList).1, .bool (getR s.data.toList).2]) ∧ Below w.heap.size w w' := by
  by_cases h0 : s.size = 0
  · exact get_none s w h0
  · by_cases h : s[0]'(by omega) = 45
    · exact get_neg s w hm (by omega) h
    · exact get_pos s w hm (by omega) h

end Go.Proofs.Ytfihnnfjkhcgkaa.R01
