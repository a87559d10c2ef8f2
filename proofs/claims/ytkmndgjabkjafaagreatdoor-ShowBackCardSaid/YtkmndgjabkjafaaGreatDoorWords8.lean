/-
  Package show: the words of frames, walked.
-/
import Derived.Test.YtkmndgjabkjafaaGreatDoorWordsT
namespace Go.Proofs.YtkmndgjabkjafaaGreatDoor.Sh6
open Go.RowKit Api Syn WordM Mem Rd5

set_option maxRecDepth 100000 in
set_option maxHeartbeats 8000000 in
theorem frameWords_any (lo hi : Nat) (w : World) (cs : List Value) (x : Api.Frame) (hx : FrameC lo hi w cs x) (hh : hi ≤ w.heap.size) (hP : NumM.In x.pos) (hI : ∀ b ∈ x.vars, argI b.a) (hl : x.vars.length ≤ 1048576) :
    Calls Tryz.prog 147 #[.agg cs.toArray] w (WordsP w (frameL x)) := by
  obtain ⟨i0, hi0, hz0, hz1, hz2⟩ := info_parts s_info
  have Hi := Lib.hid hi0
  have Hz0 := Lib.hid hz0
  have Hz1 := Lib.hid hz1
  have Hz2 := Lib.hid hz2
  clear hi0 hz0 hz1 hz2
  obtain ⟨u, rfl, kd⟩ := hx
  obtain ⟨fn, bk, ps, l⟩ := x
  simp only at kd hl hI hP ⊢
  obtain ⟨A, n, cap, b, off, rfl, hn, hm, ha, hc⟩ := kd
  show Calls Tryz.prog 147 #[.agg #[str fn, str bk, i64 ps, .slice A n cap]] w _
  have hn2 : n ≤ 1048576 := by omega
  have HC := Lib.hid hc
  have HA := Lib.hid ha
  have HN := Lib.hid hn
  have HI := Lib.hid hI
  obtain ⟨sp, hsp⟩ : ∃ s : ByteArray, s.data.toList = NumM.dec ps := ⟨⟨(NumM.dec ps).toArray⟩, rfl⟩
  have QN := Lib.hid (num_as ps hP sp hsp)
  have HSP := Lib.hid hsp
  clear hc ha hn hI hl hP hsp
  go_enter Tryz.func147, Tryz.ntmps147
  go_wp2_with fail
  go_region_law (go_simp; go_at_call 104; (with_reducible refine (QN.out _).mono ?_); rintro e w5 ⟨rfl, hb5⟩; have hb7 := (Below.refl _ _).drew.trans hb5; have p0 := own_hold6 (Own.made w 167 [str fn, str bk, i64 ps, .slice A n cap]) hb7 (by simp) 0 rfl; have p1 := own_hold6 (Own.made w 167 [str fn, str bk, i64 ps, .slice A n cap]) hb7 (by simp) 1 rfl; have p2 := own_hold6 (Own.made w 167 [str fn, str bk, i64 ps, .slice A n cap]) hb7 (by simp) 2 rfl; have HP3 := Lib.hid (own_hold6 (Own.made w 167 [str fn, str bk, i64 ps, .slice A n cap]) hb7 (by simp) 3 rfl); have HB5 := Lib.hid (((Below.refl w.heap.size w).alloc (Nat.le_refl _) (.cells #[str fn, str bk, i64 ps, .slice A n cap] 167)).trans (hb7.mono (by simp))); clear hb5 hb7)
  all_goals
    have p3 := al_cell (x := .cells #[.string ⟨#[97, 116]⟩, str fn, str bk, .string sp] 9) HP3.out
    have p3b := HP3.out
    have l0 : w.heap.size < w5.heap.size := World.block_lt_of_cell? w5 _ HP3.out
    have hm2 := made_row (base := w.heap.size) (g := w5.heap.size) (w := w5) [.string ⟨#[97, 116]⟩, str fn, str bk, .string sp] [kAt, fn, bk, NumM.dec ps] rfl rfl HB5.out.size (by simp [LinesM.strs, ← HSP.out, kAt]) (by simp)
    have HM2 := Lib.hid hm2
    have HB2 := Lib.hid (HB5.out.alloc HB5.out.size (.cells #[.string ⟨#[97, 116]⟩, str fn, str bk, .string sp] 9))
    clear hm2
    go_wp2_with fail
    clear p0 p1 p2 p3 p3b
    go_loopw [3, 17] (fun u i wr => ∃ k : Nat, k ≤ n ∧ i = .int .i64 k ∧ Hid (wr.ownsRow w.heap.size 9 1 u (4 + 2 * k) (LinesM.strs (kAt :: fn :: bk :: NumM.dec ps :: (l.take k).flatMap bindL))) ∧ Hid (Below w.heap.size w wr)) (fun _ i _ => n - (intOf i).toNat)
    case atStart => exact ⟨0, Nat.zero_le _, rfl, HM2, HB2⟩
    case round =>
    obtain ⟨k, hk, rfl, HO, HBr⟩ := hrel
    by_cases hlt : k < n
    · obtain ⟨⟨bn, ak, as_, an⟩, hx⟩ : ∃ x, l[k]? = some x := ⟨_, List.getElem?_eq_getElem (by have := HN.out; omega)⟩
      obtain ⟨rfl, _, hb1⟩ := HA.out (by omega)
      obtain ⟨cs, _, q1, rfl⟩ := HC.out k _ hx
      obtain ⟨n0, n1, n2, n3⟩ := at4 (cells_later q1 HBr.out (show b < w.heap.size by omega))
      obtain ⟨s, hs⟩ : ∃ s : ByteArray, s.data.toList = putA ⟨ak, as_, an⟩ := ⟨⟨(putA ⟨ak, as_, an⟩).toArray⟩, rfl⟩
      have Q := Lib.hid (put_as ⟨ak, as_, an⟩ (HI.out _ (List.mem_of_getElem? hx)) s hs)
      have hnx : LinesM.strs (kAt :: fn :: bk :: NumM.dec ps :: (l.take (k + 1)).flatMap bindL) = LinesM.strs (kAt :: fn :: bk :: NumM.dec ps :: (l.take k).flatMap bindL) ++ [str bn, .string s] := by
        rw [LinesM.take_next hx, List.flatMap_append, ← List.cons_append, ← List.cons_append, ← List.cons_append, ← List.cons_append, strs_app]
        congr 1
        simp [bindL, LinesM.strs, ← hs]
      have HNX := Lib.hid hnx
      clear q1 hx hs hnx
      have al0 : ∀ (c : Nat) (u : Value), [str bn, i64 ak, str as_, i64 an][c]? = some u → ∀ w', Below (wr.heap.size + 1) (wr.alloc (.cells #[str bn, i64 ak, str as_, i64 an] 163)) w' → w'.cell? ⟨wr.heap.size, c, none⟩ = some u := fun c u hu w' hb => own_hold6 (Own.made wr 163 [str bn, i64 ak, str as_, i64 an]) hb (Nat.lt_succ_self _) c hu
      have AL := Lib.hid al0
      clear al0
      go_wp2_with fail
      go_region_law (first
        | (go_simp; go_at_call 145; (with_reducible refine (Q.out _).mono ?_); rintro e w5 ⟨rfl, hb5⟩; have hb5' : Below wr.heap.size wr w5 := (((Below.refl wr.heap.size wr).alloc (Nat.le_refl _) _).drew).trans (hb5.mono (by simp)); have HO5 := Lib.hid (LinesM.own_below HO.out hb5'); have HB5 := Lib.hid (HBr.out.trans (hb5'.mono HBr.out.size)); have p0 := AL.out 0 _ rfl w5 ((Below.refl _ _).drew.trans (hb5.mono (by simp))); clear hb5 hb5')
        | (refine step_app (w0 := w5) rfl _ _ 43 (by rfl) w.heap.size 9 i0 (.string ⟨#[]⟩) 1 16 Tryz.underlying43 Hi.out Hz0.out Hz1.out Hz2.out rfl (by decide) _ (4 + 2 * k) _ (by rfl) HO5.out [str bn, .string s] 2 (by rfl) _ (by rfl) (by rfl) rfl (by simp [Value.oneCell']) (by unfold maxLen; omega) (by omega) HB5.out.size ?_; intro v' w6 hown6 hg6; have HO6 := Lib.hid hown6; have HB6 := Lib.hid (LinesM.below_grown HB5.out HO5.out hg6 HB5.out.size (Nat.le_refl _)); clear hown6 hg6))
      all_goals
        go_wp2
        go_roundw
        case rel => exact ⟨k + 1, by omega, by go_num, Lib.hid (by rw [HNX.out]; exact HO6.out), HB6⟩
        case measure => simp [intOf]; omega
    · have hkn : k = l.length := by have := HN.out; omega
      have HO2 : Hid (wr.ownsRow w.heap.size 9 1 u3 (frameL ⟨fn, bk, ps, l⟩).length (LinesM.strs (frameL ⟨fn, bk, ps, l⟩))) := Lib.hid (by
        have h1 := HO.out
        rw [List.take_of_length_le (by omega)] at h1
        have h2 : (frameL ⟨fn, bk, ps, l⟩).length = 4 + 2 * k := by
          rw [hkn]
          unfold frameL
          simp only [List.length_cons]
          have := pair_len l
          omega
        rw [h2]
        exact h1)
      clear hkn HO
      go_wp2
      go_ret
      exact ⟨_, rfl, HO2.out, HBr.out⟩
end Go.Proofs.YtkmndgjabkjafaaGreatDoor.Sh6
