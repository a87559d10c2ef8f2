/-
  lines.Join, walked.
-/
import Derived.Test.YtdibmmiobmlcbaaBuild
import Derived.Test.YtdibmmiobmlcbaaLinesJoinMath
namespace Go.Proofs.Ytdibmmiobmlcbaa
open Go.RowKit LinesM Mem Build

def wordsOf (xs : List ML) : List (List Wd) := xs.map fun x => x.2.2
theorem wordsOf_at {xs : List ML} {k : Nat} {x : ML} (h : xs[k]? = some x) : (wordsOf xs)[k]? = some x.2.2 := by unfold wordsOf; rw [List.getElem?_map, h]; rfl

theorem blank_any (B b : Nat) (l : List UInt8) (w : World) (h : Holds B b l w) (hlen : l.length + 1 ≤ 140737488355328) (hB : B ≤ w.heap.size) :
    Calls Try.prog 20 #[.pointer (some ⟨b, 0, none⟩), .int .u8 32] w fun e w' => e = .returned .nilIface ∧ Holds B b (l ++ [32]) w' ∧ Below B w w' := Build.byte_any B b l 32 w h hlen hB
theorem feed_any (B b : Nat) (l : List UInt8) (w : World) (h : Holds B b l w) (hlen : l.length + 1 ≤ 140737488355328) (hB : B ≤ w.heap.size) :
    Calls Try.prog 20 #[.pointer (some ⟨b, 0, none⟩), .int .u8 10] w fun e w' => e = .returned .nilIface ∧ Holds B b (l ++ [10]) w' ∧ Below B w w' := Build.byte_any B b l 10 w h hlen hB

set_option maxHeartbeats 4000000 in
theorem join_any (lo hi : Nat) (w : World) (v : Value) (xs : List ML) (h : Lins lo hi w v xs) (hh : hi ≤ w.heap.size) (hT : (joinV (wordsOf xs)).length ≤ 1099511627776) :
    Calls Try.prog 15 #[v] w fun e w' => e = .returned (.string ⟨(joinV (wordsOf xs)).toArray⟩) ∧ Below w.heap.size w w' := by
  obtain ⟨A, n, cap, b, off, rfl, hn, hm, ha, hc⟩ := h
  obtain ⟨T, hTT⟩ : ∃ T, (joinV (wordsOf xs)) = T := ⟨_, rfl⟩
  rw [hTT] at hT ⊢
  have HTT := Lib.hid hTT
  have HT := Lib.hid hT
  have HC := Lib.hid hc
  have HA := Lib.hid ha
  have HN := Lib.hid hn
  clear hc ha hn hT hTT
  go_enter Try.func15, Try.ntmps15
  go_wp2
  go_loopw [10] (fun i wr => ∃ k : Nat, k ≤ n ∧ i = .int .i64 k ∧ Hid (Holds w.heap.size w.heap.size (joinV ((wordsOf xs).take k)) wr) ∧ Hid (Below w.heap.size w wr) ∧ Hid (k = 0 → wr = w.alloc (.cells #[.pointer none, .slice none 0 0] 49))) (fun i _ => n - (intOf i).toNat)
  case atStart => exact ⟨0, Nat.zero_le _, rfl, Lib.hid (Lib.fresh_isBuilder _ _ w), Lib.hid ((Below.refl _ _).alloc (Nat.le_refl _) _), Lib.hid fun _ => rfl⟩
  case round =>
    obtain ⟨k, hk, rfl, HH, HB, HZ⟩ := hrel
    by_cases hlt : k < n
    · obtain ⟨⟨N, u, ws⟩, hx⟩ : ∃ x, xs[k]? = some x := ⟨_, List.getElem?_eq_getElem (by have := HN.out; omega)⟩
      obtain ⟨rfl, _, hb⟩ := HA.out (by omega)
      obtain ⟨c1, c2, c3⟩ := HC.out k _ hx
      simp only at c1 c2 c3
      obtain ⟨A1, p1, rfl⟩ := c3.form
      obtain ⟨s1, o1, _, hm1, a1, j1⟩ := c3.get
      have hb2 : b < w.heap.size := by omega
      have d1 := (HB.out.cell (p := ⟨b, off + k * 2, none⟩) hb2).trans c1
      have d2 := (HB.out.cell (p := ⟨b, off + k * 2 + 1, none⟩) hb2).trans c2
      have A1h := Lib.hid a1
      have J1h := Lib.hid j1
      have HX := Lib.hid (wordsOf_at hx)
      have HZn : Hid True := Lib.hid trivial
      clear c1 c2 c3 a1 j1 hx HZ
      obtain ⟨wo, rfl⟩ : ∃ wo : World, wo = wr := ⟨_, rfl⟩
      go_wp2
      go_loopw [17] (fun j wq => ∃ q : Nat, q ≤ ws.length ∧ j = .int .i64 q ∧ Hid (Holds w.heap.size w.heap.size (joinV ((wordsOf xs).take k) ++ lineJ (ws.take q)) wq) ∧ Hid (Below w.heap.size w wq)) (fun j _ => ws.length - (intOf j).toNat)
      case atStart =>
        refine ⟨0, Nat.zero_le _, rfl, Lib.hid ?_, Lib.hid (HB.out.alloc HB.out.size _)⟩
        have e : joinV ((wordsOf xs).take k) ++ lineJ (ws.take 0) = joinV ((wordsOf xs).take k) := by rw [List.take_zero]; exact List.append_nil _
        rw [e]
        exact HH.out.below ((Below.refl _ _).alloc (Nat.le_refl _) _)
      case round =>
        obtain ⟨q, hq, rfl, HH2, HB2⟩ := hrel
        by_cases hqt : q < ws.length
        · obtain ⟨x, hx⟩ : ∃ x, ws[q]? = some x := ⟨_, List.getElem?_eq_getElem hqt⟩
          obtain ⟨rfl, _, hs1⟩ := A1h.out (by omega)
          have d7 := (HB2.out.cell (p := ⟨s1, o1 + q, none⟩) (by show s1 < _; omega)).trans (J1h.out q x hx)
          have hp := part_le (q := q + 1) HX.out
          have hT2 := HT.out
          rw [HTT.out] at hp
          by_cases hq0 : q = 0
          · subst hq0
            rw [Nat.add_zero] at d7
            have hst := lineJ_step0 hx
            rw [hst] at hp
            simp only [List.length_append] at hp
            have HST := Lib.hid hst
            have hle : (joinV ((wordsOf xs).take k) ++ lineJ (ws.take 0)).length + x.length ≤ 140737488355328 := by rw [List.length_append]; omega
            have HLE := Lib.hid hle
            clear hx hst hp hT2 hle
            go_wp2_with (go_at_call 21; (with_reducible refine (text_any _ _ _ x _ HH2.out HLE.out HB2.out.size).mono ?_); rintro e w1 ⟨rfl, hh1, hb1⟩; have HH3 := Lib.hid hh1; have HB3 := Lib.hid (HB2.out.trans hb1); clear hh1 hb1)
            go_roundw
            case rel => exact ⟨0 + 1, by omega, by go_num, Lib.hid (by rw [HST.out, ← List.append_assoc]; exact HH3.out), HB3⟩
            case measure => simp [intOf]; omega
          · have hq1 : 0 < q := by omega
            have hst := lineJ_step hx hq1
            rw [hst] at hp
            simp only [List.length_append, List.length_singleton] at hp
            have HST := Lib.hid hst
            have hle1 : (joinV ((wordsOf xs).take k) ++ lineJ (ws.take q)).length + 1 ≤ 140737488355328 := by rw [List.length_append]; omega
            have hle2 : (joinV ((wordsOf xs).take k) ++ lineJ (ws.take q) ++ [32]).length + x.length ≤ 140737488355328 := by rw [List.length_append, List.length_append, List.length_singleton]; omega
            have HLE1 := Lib.hid hle1
            have HLE2 := Lib.hid hle2
            have g1 : decide (0 < q) = true := decide_eq_true hq1
            clear hx hst hp hT2 hle1 hle2
            go_wp2_with (first
              | (go_at_call 20; (with_reducible refine (blank_any _ _ _ _ HH2.out HLE1.out HB2.out.size).mono ?_); rintro e w1 ⟨rfl, hh1, hb1⟩; have HH3 := Lib.hid hh1; have HB3 := Lib.hid (HB2.out.trans hb1); clear hh1 hb1)
              | (go_at_call 21; (with_reducible refine (text_any _ _ _ x _ HH3.out HLE2.out HB3.out.size).mono ?_); rintro e w2 ⟨rfl, hh1, hb1⟩; have HH4 := Lib.hid hh1; have HB4 := Lib.hid (HB3.out.trans hb1); clear hh1 hb1))
            go_roundw
            case rel => exact ⟨q + 1, by omega, by go_num, Lib.hid (by rw [HST.out, ← List.append_assoc, ← List.append_assoc]; exact HH4.out), HB4⟩
            case measure => simp [intOf]; omega
        · have hp := part_le (q := ws.length) HX.out
          have hT2 := HT.out
          rw [HTT.out] at hp
          obtain rfl : q = ws.length := by omega
          have hle : (joinV ((wordsOf xs).take k) ++ lineJ (ws.take ws.length)).length + 1 ≤ 140737488355328 := by rw [List.length_append]; omega
          have HLE := Lib.hid hle
          have HE : Hid (joinV ((wordsOf xs).take k) ++ lineJ (ws.take ws.length) ++ [10] = joinV ((wordsOf xs).take (k + 1))) := Lib.hid (by rw [joinV_next HX.out, List.take_length])
          clear hp hT2 hle
          go_wp2_with (go_at_call 20; (with_reducible refine (feed_any _ _ _ _ HH2.out HLE.out HB2.out.size).mono ?_); rintro e w1 ⟨rfl, hh1, hb1⟩; have HH3 := Lib.hid hh1; have HB3 := Lib.hid (HB2.out.trans hb1); clear hh1 hb1)
          go_roundw
          case rel => exact ⟨k + 1, by omega, by go_num, Lib.hid (by rw [← HE.out]; exact HH3.out), HB3, Lib.hid fun h0 => by omega⟩
          case measure => simp [intOf]; omega
    · obtain rfl : k = n := by omega
      have hnl : (wordsOf xs).length = k := by unfold wordsOf; rw [List.length_map]; exact HN.out.symm
      by_cases hk0 : k = 0
      · obtain rfl := HZ.out hk0
        have hT0 : T = [] := by rw [← HTT.out, List.eq_nil_of_length_eq_zero (hnl.trans hk0)]; rfl
        subst hT0
        have Q := Lib.hid (none_any w.heap.size w.heap.size (.pointer none) (w.alloc (.cells #[.pointer none, .slice none 0 0] 49)) (heap_alloc_new w _))
        clear hnl hk0
        go_wp2_with (go_at_call 22; (with_reducible refine (Q.out).mono ?_); rintro e w1 ⟨rfl, hb1⟩; have HB3 := Lib.hid (HB.out.trans hb1); clear hb1)
        go_ret
        exact ⟨rfl, HB3.out⟩
      · have hT0 : T ≠ [] := by
          intro e
          have h1 := HTT.out
          rw [e] at h1
          have h2 := part_le (L := wordsOf xs) (k := 0) (q := 0) (List.getElem?_eq_getElem (by omega))
          rw [h1] at h2
          simp at h2
        have hh2 := HH.out
        rw [List.take_of_length_le (by omega), HTT.out] at hh2
        have Q := Lib.hid (told_any _ _ _ _ hh2 hT0)
        clear hnl hk0 hh2 hT0
        go_wp2_with (go_at_call 22; (with_reducible refine (Q.out).mono ?_); rintro e w1 ⟨rfl, hb1⟩; have HB3 := Lib.hid (HB.out.trans hb1); clear hb1)
        go_ret
        exact ⟨rfl, HB3.out⟩
end Go.Proofs.Ytdibmmiobmlcbaa
