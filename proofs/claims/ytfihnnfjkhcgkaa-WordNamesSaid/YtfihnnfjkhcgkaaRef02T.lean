/-
  What the document's own Put and Get do, walked: what the program's do.
-/
import Derived.Test.YtfihnnfjkhcgkaaRef02
import Derived.Test.YtfihnnfjkhcgkaaFloGet
namespace Go.Proofs.Ytfihnnfjkhcgkaa.R02
open Go.RowKit NumM FloM Mem

theorem info_u8 : (Try.prog.info? 5).map (fun i => (i.zero, i.size, i.bytes)) = some (some (.int .u8 0), 1, 1) := by kernel_rfl

theorem hx_lo {r : Nat} (h : r % 16 < 10) : (r : Int) % 16 + 48 = ((hx r).toNat : Int) := by rw [hx_val, if_pos h]; omega
theorem hx_hi {r : Nat} (h : ¬ r % 16 < 10) : (r : Int) % 16 + 87 = ((hx r).toNat : Int) := by rw [hx_val, if_neg h]; omega

theorem own_cons {w : World} {base n r : Nat} {v : Value} {l : List UInt8} {d : Int} (hd : d = ((hx r).toNat : Int)) (h : w.ownsRow base 5 1 v n ([.int .u8 d] ++ l.map fun c => .int .u8 (c.toNat : Int))) :
    w.ownsRow base 5 1 v n ((hx r :: l).map fun c => .int .u8 (c.toNat : Int)) := by
  subst hd
  rw [List.map_cons]; exact h

theorem fl_u64 (n : Int) : IntKind.u64.wrap (plainV n) = (fl n : Int) := by rw [wu64]; unfold fl ub; omega

set_option maxRecDepth 20000 in
set_option maxHeartbeats 1000000 in
theorem put_any (n : Int) (w : World) : Calls Try.prog 25 #[.int .i64 n] w fun e w' => e = .returned (.string ⟨(putV n).toArray⟩) ∧ Below w.heap.size w w' := by
  obtain ⟨i0, hi, hz0, hz1, hz2⟩ := info_parts info_u8
  have Hi := Lib.hid hi
  have Hz0 := Lib.hid hz0
  have Hz1 := Lib.hid hz1
  have Hz2 := Lib.hid hz2
  have Hlt : Hid ((fl n : Int) < 18446744073709551616) := by have := fl_lt n; show _ < _; omega
  have Hfl : Hid (Value.int .u64 (IntKind.u64.wrap (plainV n)) = .int .u64 (fl n : Int)) := by show _ = _; rw [fl_u64]
  clear hi hz0 hz1 hz2
  go_enter Try.func25, Try.ntmps25
  go_wp2_with (go_at_call 20; refine (plain_any _ _).mono ?_; rintro e w' ⟨rfl, rfl⟩)
  go_loopw [3, 4, 5] (fun u b i wr => ∃ (k r : Nat) (l : List UInt8), i = .int .i64 (k : Int) ∧ u = .int .u64 (r : Int) ∧ k ≤ 16 ∧ (r : Int) < 18446744073709551616 ∧ Hexs (fl n) (16 - k) r l ∧ l.length = k ∧
      wr.ownsRow w.heap.size 5 1 b k (l.map fun c => .int .u8 (c.toNat : Int)) ∧ Below w.heap.size w wr) (fun _ _ i _ => (16 - intOf i).toNat)
  case atStart => exact ⟨0, fl n, [], rfl, Hfl.out, by omega, Hlt.out, Hexs.start _, rfl, ⟨by simp, .inl ⟨rfl, rfl⟩⟩, Below.refl _ _⟩
  case round =>
    obtain ⟨k, r, l, rfl, rfl, hk, hr, hd, hl, ho, hb⟩ := hrel
    have Ho := Lib.hid ho
    have Hd := Lib.hid hd
    have Hl := Lib.hid hl
    have hw : w.heap.size ≤ wr.heap.size := hb.size
    have Hw := Lib.hid hw
    clear ho hd hl hw
    by_cases h16 : k < 16
    · have t1 : decide ((k : Int) < 16) = true := decide_eq_true (by omega)
      have Hk := Lib.hid h16
      have hcs : ∀ u ∈ l.map (fun c : UInt8 => Value.int .u8 (c.toNat : Int)), u.oneCell' = true := by
        intro u hu; obtain ⟨c, _, rfl⟩ := List.mem_map.1 hu; rfl
      have Hcs := Lib.hid hcs
      clear hcs h16
      by_cases h10 : r % 16 < 10
      · have t2 : decide ((r : Int) % 16 < 10) = true := decide_eq_true (by omega)
        have Hx := Lib.hid (hx_lo h10)
        clear h10
        have hone : ((wr.alloc (.cells #[.int .u8 ((r : Int) % 16 + 48)] 5)).ownsRow w.heap.size 5 1 (.slice (some ⟨wr.heap.size, 0, none⟩) 1 1) 1 [.int .u8 ((r : Int) % 16 + 48)]) :=
          (Own.made wr 5 [.int .u8 ((r : Int) % 16 + 48)]).row Hw.out (by omega) (by decide) rfl rfl
        have Hone := Lib.hid hone
        clear hone
        go_wp2_with (at_builtin; refine wpList_app (w := wr.alloc (.cells #[.int .u8 ((r : Int) % 16 + 48)] 5)) rfl _ _ 43 rfl w.heap.size 5 i0 (.int .u8 0) 1 1 Try.underlying43 Hi.out Hz0.out Hz1.out Hz2.out rfl (by decide) _ 1 [.int .u8 ((r : Int) % 16 + 48)] rfl Hone.out _ k _ rfl (Ho.out.alloc _) Hcs.out (by unfold maxLen; omega) (by omega) (by have := Hw.out; simp; omega) ?_; intro v' w1 hown1 hb1)
        go_roundw
        case rel =>
          have h1 := Hk.out
          refine ⟨k + 1, r / 16, hx r :: l, by go_num, by go_num, by omega, by omega, ?_, by have := Hl.out; simp; omega, ?_, (hb.alloc Hw.out _).trans hb1⟩
          · have h2 := Hd.out
            rw [show 16 - k = 16 - (k + 1) + 1 by omega] at h2
            exact h2.more
          · rw [Nat.add_comm]; exact own_cons Hx.out hown1
        case measure =>
          have := Hk.out
          simp [intOf]; omega
      · have t2 : decide ((r : Int) % 16 < 10) = false := decide_eq_false (by omega)
        have Hx := Lib.hid (hx_hi h10)
        clear h10
        have hone : ((wr.alloc (.cells #[.int .u8 ((r : Int) % 16 + 87)] 5)).ownsRow w.heap.size 5 1 (.slice (some ⟨wr.heap.size, 0, none⟩) 1 1) 1 [.int .u8 ((r : Int) % 16 + 87)]) :=
          (Own.made wr 5 [.int .u8 ((r : Int) % 16 + 87)]).row Hw.out (by omega) (by decide) rfl rfl
        have Hone := Lib.hid hone
        clear hone
        go_wp2_with (at_builtin; refine wpList_app (w := wr.alloc (.cells #[.int .u8 ((r : Int) % 16 + 87)] 5)) rfl _ _ 43 rfl w.heap.size 5 i0 (.int .u8 0) 1 1 Try.underlying43 Hi.out Hz0.out Hz1.out Hz2.out rfl (by decide) _ 1 [.int .u8 ((r : Int) % 16 + 87)] rfl Hone.out _ k _ rfl (Ho.out.alloc _) Hcs.out (by unfold maxLen; omega) (by omega) (by have := Hw.out; simp; omega) ?_; intro v' w1 hown1 hb1)
        go_roundw
        case rel =>
          have h1 := Hk.out
          refine ⟨k + 1, r / 16, hx r :: l, by go_num, by go_num, by omega, by omega, ?_, by have := Hl.out; simp; omega, ?_, (hb.alloc Hw.out _).trans hb1⟩
          · have h2 := Hd.out
            rw [show 16 - k = 16 - (k + 1) + 1 by omega] at h2
            exact h2.more
          · rw [Nat.add_comm]; exact own_cons Hx.out hown1
        case measure =>
          have := Hk.out
          simp [intOf]; omega
    · obtain rfl : k = 16 := by omega
      have h2 := Hd.out
      have hfin : (⟨#[48, 102]⟩ : ByteArray) ++ ⟨l.toArray⟩ = ⟨(putV n).toArray⟩ := by
        rw [putV, Hexs.last h2]; apply ByteArray.ext; rw [ByteArray.data_append]; simp
      have hcv :=
        own_string (P := Try.prog) wr 43 9 5 Try.underlying43 Try.underlying5 Try.underlying9 l (by have := Hl.out; rintro rfl; simp at this) Ho.out
      have Hfin := Lib.hid hfin
      have hl16 := Hl.out
      clear hfin h2 h16 hk
      go_wp2
      go_ret
      exact ⟨congrArg (fun b => Ending.returned (Value.string b)) Hfin.out, hb⟩

theorem u64_eqt {a b : Int} (h : a = b) : Value.int IntKind.u64 a = .int .u64 b := by rw [h]

theorem take_drop_next (s : ByteArray) (k : Nat) (h0 : 2 ≤ k) (h : k < s.size) : (s.data.toList.take (k + 1)).drop 2 = (s.data.toList.take k).drop 2 ++ [s[k]] := by
  rw [ftake_next s k h, List.drop_append_of_le_length]
  rw [List.length_take, Array.length_toList]
  have hsz : s.data.size = s.size := rfl
  omega

theorem step_hi (u c : Int) : IntKind.u64.wrap (IntKind.u64.wrap (u * 16) + (c - 87) % 16) = (u * 16 + (c - 87) % 16) % 18446744073709551616 := by rw [wu64, wu64]; omega
theorem step_lo (u c : Int) : IntKind.u64.wrap (IntKind.u64.wrap (u * 16) + (IntKind.u64.wrap (c - 48)).tmod 16) = (u * 16 + (c - 48) % 18446744073709551616 % 16) % 18446744073709551616 := by
  rw [Int.tmod_eq_emod_of_nonneg (by rw [wu64]; omega), wu64, wu64, wu64]; omega

theorem rrd_in (l : List UInt8) : 0 ≤ rrd l ∧ rrd l < 18446744073709551616 := by
  unfold rrd
  suffices h : ∀ (l : List UInt8) (a : Int), 0 ≤ a ∧ a < 18446744073709551616 → 0 ≤ l.foldl rstep a ∧ l.foldl rstep a < 18446744073709551616 from h l 0 (by omega)
  intro l
  induction l with
  | nil => intro a h; exact h
  | cons c l ih => intro a _; exact ih _ (by unfold rstep; omega)

set_option maxHeartbeats 1000000 in
theorem get_any (s : ByteArray) (w : World) :
    Calls Try.prog 28 #[.string s] w fun e w' => e = .returned (.tuple #[.int .i64 (rgetV s.data.toList).1, .bool (rgetV s.data.toList).2]) ∧ Below w.heap.size w w' := by
  by_cases h18 : s.size = 18
  · have h1 : ((s.size : Int) != 18) = false := by simp; omega
    have hl : s.data.toList.length = 18 := by simpa using h18
    have hv : rgetV s.data.toList = if putV (wrap64 (rrd (s.data.toList.drop 2))) = s.data.toList then (wrap64 (rrd (s.data.toList.drop 2)), true) else (0, false) := by unfold rgetV; rw [if_pos hl]
    obtain ⟨g, hg, hg2⟩ : ∃ g, rgetV s.data.toList = g ∧ (putV (wrap64 (rrd (s.data.toList.drop 2))) = s.data.toList ∧ g = (wrap64 (rrd (s.data.toList.drop 2)), true) ∨ ¬ putV (wrap64 (rrd (s.data.toList.drop 2))) = s.data.toList ∧ g = (0, false)) := by
      refine ⟨_, rfl, ?_⟩
      rw [hv]
      by_cases hd : putV (wrap64 (rrd (s.data.toList.drop 2))) = s.data.toList
      · left; exact ⟨hd, if_pos hd⟩
      · right; exact ⟨hd, if_neg hd⟩
    rw [hg]
    have Hg := Lib.hid hg2
    have Hl := Lib.hid hl
    have H18 := Lib.hid h18
    clear hv hg hg2 hl h18
    go_enter Try.func28, Try.ntmps28
    go_wp2
    go_loop [4, 5, 6] (fun u i _ => ∃ k : Nat, 2 ≤ k ∧ k ≤ 18 ∧ i = .int .i64 (k : Int) ∧ u = .int .u64 (rrd ((s.data.toList.take k).drop 2))) (fun _ i _ => (18 - intOf i).toNat)
    case atStart => exact ⟨2, by omega, by omega, rfl, u64_eqt (by rw [List.drop_take]; rfl)⟩
    case round =>
      obtain ⟨k, hk2, hk18, rfl, rfl⟩ := hrel
      have hu := rrd_in ((s.data.toList.take k).drop 2)
      by_cases hlt : k < 18
      · have hks : k < s.size := by have := H18.out; omega
        have hnext : rrd ((s.data.toList.take (k + 1)).drop 2) = rstep (rrd ((s.data.toList.take k).drop 2)) s[k] := by rw [take_drop_next s k hk2 hks, rrd_snoc]
        have Hnext := Lib.hid hnext
        clear hnext
        generalize rrd ((s.data.toList.take k).drop 2) = u at *
        obtain ⟨hu1, hu2⟩ := hu
        have hc := s[k].toNat_lt
        have Hk := Lib.hid (show 2 ≤ k ∧ k < 18 from ⟨hk2, hlt⟩)
        clear hk2 hk18
        by_cases h97 : 97 ≤ (s[k].toNat : Int)
        · have Hs : Hid (IntKind.u64.wrap (IntKind.u64.wrap (u * 16) + (↑s[k].toNat - 87) % 16) = rstep u s[k]) := by show _ = _; rw [step_hi]; unfold rstep; rw [if_pos h97]
          go_wp2
          go_round
          case rel =>
            have h1 := Hk.out
            exact ⟨k + 1, by omega, by omega, by go_num, u64_eqt (by rw [Hs.out, Hnext.out])⟩
          case measure =>
            have h1 := Hk.out
            simp [intOf]; omega
        · have Hs : Hid (IntKind.u64.wrap (IntKind.u64.wrap (u * 16) + (IntKind.u64.wrap (↑s[k].toNat - 48)).tmod 16) = rstep u s[k]) := by show _ = _; rw [step_lo]; unfold rstep; rw [if_neg h97]
          go_wp2
          go_round
          case rel =>
            have h1 := Hk.out
            exact ⟨k + 1, by omega, by omega, by go_num, u64_eqt (by rw [Hs.out, Hnext.out])⟩
          case measure =>
            have h1 := Hk.out
            simp [intOf]; omega
      · obtain rfl : k = 18 := by omega
        have htk : s.data.toList.take 18 = s.data.toList := List.take_of_length_le (by have := Hl.out; omega)
        rw [htk]
        rw [htk] at hu
        have hg := Hg.out
        generalize rrd (s.data.toList.drop 2) = u at *
        obtain ⟨hu1, hu2⟩ := hu
        clear htk hlt hk2 hk18 Hg
        rcases hg with ⟨hd, rfl⟩ | ⟨hd, rfl⟩
        · have hb : (!putV (wrap64 u) == s.toList) = false := by rw [ByteArray.toList_eq]; simpa using hd
          clear hd
          go_wp2_with (go_at_call 25; refine (put_any _ _).mono ?_; rintro e w' ⟨rfl, hb1⟩)
          go_ret2
          exact ⟨rfl, hb1⟩
        · have hb : (!putV (wrap64 u) == s.toList) = true := by rw [ByteArray.toList_eq]; simpa using hd
          clear hd
          go_wp2_with (go_at_call 25; refine (put_any _ _).mono ?_; rintro e w' ⟨rfl, hb1⟩)
          go_ret2
          exact ⟨rfl, hb1⟩
  · have hv : rgetV s.data.toList = (0, false) := by unfold rgetV; rw [if_neg (by simpa using h18)]
    have h1 : ((s.size : Int) != 18) = true := by simp; omega
    rw [hv]
    clear hv h18
    go_enter Try.func28, Try.ntmps28
    go_wp2
    go_ret2
    exact ⟨rfl, Below.refl _ _⟩

end Go.Proofs.Ytfihnnfjkhcgkaa.R02
