/-
  word.Get, walked.
-/
import Derived.Test.YtfihnnfjkhcgkaaWordGet
namespace Go.Proofs.Ytfihnnfjkhcgkaa
open Go.RowKit NumM FloM WordM Mem

theorem own3 {w : World} {g : Nat} {t : TypeId} {v0 v1 v2 : Value} (o : Own w g t [v0, v1, v2]) :
    (w.cell? ⟨g, 0, none⟩ = some v0 ∧ w.cell? ⟨g, 1, none⟩ = some v1 ∧ w.cell? ⟨g, 2, none⟩ = some v2) ∧
    (w.frozen? ⟨g, 0, none⟩ = false ∧ w.frozen? ⟨g, 1, none⟩ = false ∧ w.frozen? ⟨g, 2, none⟩ = false) ∧ g < w.heap.size :=
  ⟨⟨o.cell 0, o.cell 1, o.cell 2⟩, ⟨o.thaw 0, o.thaw 1, o.thaw 2⟩, o.lt⟩
theorem made3 {w w1 : World} {t : TypeId} {v0 v1 v2 : Value} (hb : Below (w.alloc (.cells #[v0, v1, v2] t)).heap.size (w.alloc (.cells #[v0, v1, v2] t)) w1) : Own w1 w.heap.size t [v0, v1, v2] :=
  (Own.made w t [v0, v1, v2]).below hb (by simp)
theorem keep3 {w1 w2 : World} {g : Nat} {t : TypeId} {cs : List Value} {x : Obj} (o : Own w1 g t cs) (hb : Below (w1.alloc x).heap.size (w1.alloc x) w2) : Own w2 g t cs :=
  (o.alloc x).below hb (by have := o.lt; simp; omega)

set_option maxHeartbeats 4000000 in
theorem wget_notok (k : Int) (u : ByteArray) (n : Int) (s : ByteArray) (hm : s.size ≤ maxLen) (hg : wread s = ((k, u, n), false)) (w : World) :
    Calls Try.prog 15 #[.string s] w fun e w' => e = .returned (.tuple #[.agg #[.int .i64 0, .string ⟨#[]⟩, .int .i64 0], .bool false]) ∧ Below w.heap.size w w' := by
  have hr := fun w => wread_any s hm w
  rw [hg] at hr
  have Hr := Lib.hid hr
  clear hr hg hm
  go_enter Try.func15, Try.ntmps15
  go_wp2_with (go_at_call 26; refine (Hr.out _).mono ?_; unfold val; rintro e w1 ⟨rfl, hb⟩; obtain ⟨⟨hc0, hc1, hc2⟩, ⟨hz0, hz1, hz2⟩, hlt⟩ := own3 (made3 hb))
  (try simp only [Exit.inBlock, Exit.then])
  refine bodyPost_ret (v := .tuple #[.agg #[.int .i64 0, .string ⟨#[]⟩, .int .i64 0], .bool false]) (by rw [results_cell_tmp rfl]; go_simp) rfl ⟨rfl, ?_⟩
  exact (put3 (Nat.le_refl _) (grow3 (one_more _ _) hb)).alloc (by simp; omega) _

set_option maxHeartbeats 4000000 in
theorem wget_wrong (k : Int) (u : ByteArray) (n : Int) (s : ByteArray) (hm : s.size ≤ maxLen) (hg : wread s = ((k, u, n), true)) (hw : rightV (k, u, n) = false) (w : World) :
    Calls Try.prog 15 #[.string s] w fun e w' => e = .returned (.tuple #[.agg #[.int .i64 0, .string ⟨#[]⟩, .int .i64 0], .bool false]) ∧ Below w.heap.size w w' := by
  have hr := fun w => wread_any s hm w
  rw [hg] at hr
  have Hr := Lib.hid hr
  have Hq := Lib.hid (wright_at k u n false hw)
  clear hr hg hm hw
  go_enter Try.func15, Try.ntmps15
  go_wp2_with (first | (go_at_call 26; refine (Hr.out _).mono ?_; unfold val; rintro e w1 ⟨rfl, hb⟩; have O1 := Lib.hid (made3 hb); obtain ⟨⟨hc0, hc1, hc2⟩, ⟨hz0, hz1, hz2⟩, hlt⟩ := own3 (made3 hb)) | (go_at_call 11; refine (Hq.out _).mono ?_; rintro e w2 ⟨rfl, hb2⟩; have o := keep3 O1.out hb2; obtain ⟨⟨hd0, hd1, hd2⟩, ⟨hy0, hy1, hy2⟩, hlt2⟩ := own3 o; clear o))
  (try simp only [Exit.inBlock, Exit.then])
  refine bodyPost_ret (v := .tuple #[.agg #[.int .i64 0, .string ⟨#[]⟩, .int .i64 0], .bool false]) (by rw [results_cell_tmp rfl]; go_simp) rfl ⟨rfl, ?_⟩
  exact put3 (Nat.le_refl _) (grow3 ((grow3 (one_more _ _) hb).alloc (Nat.le_of_lt hlt) _) hb2)

set_option maxHeartbeats 4000000 in
theorem wget_right (k : Int) (u : ByteArray) (n : Int) (s : ByteArray) (hm : s.size ≤ maxLen) (hg : wread s = ((k, u, n), true)) (hw : rightV (k, u, n) = true) (w : World) :
    Calls Try.prog 15 #[.string s] w fun e w' => e = .returned (.tuple #[.agg #[.int .i64 k, .string u, .int .i64 n], .bool true]) ∧ Below w.heap.size w w' := by
  have hr := fun w => wread_any s hm w
  rw [hg] at hr
  have hu : u.size ≤ 281474976710656 := by
    have hl : u.data.toList.length = u.size := by rw [Array.length_toList]; rfl
    rcases right_cases hw with ⟨u', ha, hn⟩ | ⟨n', ha⟩ | ⟨n', ha, _⟩ | ha | ⟨n', ha, _⟩
    · have : u = u' := (Prod.mk.inj (Prod.mk.inj ha).2).1
      subst this
      obtain ⟨c, t, _, _, _, h16⟩ := name_parts hn
      omega
    all_goals
      have : u = e0 := (Prod.mk.inj (Prod.mk.inj ha).2).1
      subst this
      decide
  have Hr := Lib.hid hr
  have Hq := Lib.hid (wright_at k u n true hw)
  have Hu := Lib.hid hu
  clear hr hg hm hw hu
  go_enter Try.func15, Try.ntmps15
  go_wp2_with (first | (go_at_call 26; refine (Hr.out _).mono ?_; unfold val; rintro e w1 ⟨rfl, hb⟩; have O1 := Lib.hid (made3 hb); obtain ⟨⟨hc0, hc1, hc2⟩, ⟨hz0, hz1, hz2⟩, hlt⟩ := own3 (made3 hb)) | (go_at_call 11; refine (Hq.out _).mono ?_; rintro e w2 ⟨rfl, hb2⟩; have O2 := Lib.hid (keep3 O1.out hb2); have P2 := Lib.hid (made3 hb2); obtain ⟨⟨hd0, hd1, hd2⟩, ⟨hy0, hy1, hy2⟩, hlt2⟩ := own3 O2.out; obtain ⟨⟨hf0, hf1, hf2⟩, ⟨hx0, hx1, hx2⟩, hlt3⟩ := own3 P2.out) | (go_at_call 23; refine (clone_any u _ Hu.out).mono ?_; rintro e w3 ⟨rfl, hb3⟩; have o := O2.out.below hb3 hlt2; have p := P2.out.below hb3 hlt3; obtain ⟨⟨hg0, hg1, hg2⟩, ⟨hv0, hv1, hv2⟩, hlt4⟩ := own3 o; obtain ⟨⟨hh0, hh1, hh2⟩, ⟨ht0, ht1, ht2⟩, hlt5⟩ := own3 p; clear o p))
  (try simp only [Exit.inBlock, Exit.then])
  refine bodyPost_ret (v := .tuple #[.agg #[.int .i64 k, .string u, .int .i64 n], .bool true]) (by rw [results_cell_tmp rfl]; go_simp) rfl ⟨rfl, ?_⟩
  exact put3 (Nat.le_refl _) ((grow3 (grow3 ((grow3 (one_more _ _) hb).alloc (Nat.le_of_lt hlt) _) hb2) hb3).setCell (Nat.le_of_lt hlt) _)

theorem wget_any (s : ByteArray) (hm : s.size ≤ maxLen) (w : World) :
    Calls Try.prog 15 #[.string s] w fun e w' => e = .returned (.tuple #[val (wget s).1, .bool (wget s).2]) ∧ Below w.heap.size w w' := by
  unfold wget
  rcases hg : wread s with ⟨⟨k, u, n⟩, b⟩
  cases b
  · rw [if_neg (by simp)]; exact wget_notok k u n s hm hg w
  · by_cases hw : rightV (k, u, n) = true
    · rw [if_pos ⟨rfl, hw⟩]; exact wget_right k u n s hm hg hw w
    · rw [if_neg (by rintro ⟨_, h⟩; exact hw h)]; exact wget_wrong k u n s hm hg (by simpa using hw) w
theorem wget_at (s : ByteArray) (k : Int) (u : ByteArray) (n : Int) (b : Bool) (hm : s.size ≤ maxLen) (h : wget s = ((k, u, n), b)) (w : World) :
    Calls Try.prog 15 #[.string s] w fun e w' => e = .returned (.tuple #[.agg #[.int .i64 k, .string u, .int .i64 n], .bool b]) ∧ Below w.heap.size w w' := by
  have := wget_any s hm w
  rw [h] at this
  exact this
theorem wput_at (k : Int) (s : ByteArray) (n : Int) (l : List UInt8) (hn : In n) (h : wput (k, s, n) = l) (w : World) :
    Calls Try.prog 13 #[.agg #[.int .i64 k, .string s, .int .i64 n]] w fun e w' => e = .returned (.string ⟨l.toArray⟩) ∧ Below w.heap.size w w' := by
  rw [← h]; exact wput_any (k, s, n) hn w
end Go.Proofs.Ytfihnnfjkhcgkaa
