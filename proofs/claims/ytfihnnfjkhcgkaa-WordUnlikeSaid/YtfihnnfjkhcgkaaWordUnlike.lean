/-
  Unlike right arguments have unlike words: the statement WordUnlike. No condition.
-/
import Derived.Test.YtfihnnfjkhcgkaaLaw03
import Derived.Test.YtfihnnfjkhcgkaaShell
import Derived.ProofKit
import Derived.OpenShut
import Derived.Lib.SmallJoins
import Derived.Deep.RegionHeld3
namespace Go.Proofs.Ytfihnnfjkhcgkaa.wordUnlike
open Go.ChangeShapes Go.WideShapes Go.ChangeAt Go.RowKit
open NumM FloM WordM Mem

/-- two boxed arguments, behind a call that turns nothing of them. -/
theorem boxes2 {w w1 : World} {t : TypeId} {v0 v1 v2 u0 u1 u2 : Value} (hb : Below ((w.alloc (.cells #[v0, v1, v2] t)).alloc (.cells #[u0, u1, u2] t)).heap.size ((w.alloc (.cells #[v0, v1, v2] t)).alloc (.cells #[u0, u1, u2] t)) w1) :
    Own w1 w.heap.size t [v0, v1, v2] ∧ Own w1 (w.heap.size + 1) t [u0, u1, u2] ∧ Below w.heap.size w w1 := by
  have e : (w.alloc (.cells #[v0, v1, v2] t)).heap.size = w.heap.size + 1 := by simp
  refine ⟨((Own.made w t [v0, v1, v2]).alloc _).below hb (by simp; omega), ?_, grow3 ((one_more w _).alloc (by simp) _) hb⟩
  rw [← e]; exact made3 hb
theorem two_first {w w1 : World} {g1 g2 : Nat} {t : TypeId} {v0 v1 v2 u0 u1 u2 : Value} (o1 : Own w1 g1 t [v0, v1, v2]) (o2 : Own w1 g2 t [u0, u1, u2]) (hB : Below w.heap.size w w1) :
    (w1.drew.cell? ⟨g1, 0, none⟩ = some v0 ∧ w1.drew.cell? ⟨g1, 1, none⟩ = some v1 ∧ w1.drew.cell? ⟨g1, 2, none⟩ = some v2) ∧ (w1.drew.cell? ⟨g2, 0, none⟩ = some u0 ∧ w1.drew.cell? ⟨g2, 1, none⟩ = some u1 ∧ w1.drew.cell? ⟨g2, 2, none⟩ = some u2) ∧
      Hid (Own w1.drew g1 t [v0, v1, v2]) ∧ Hid (Own w1.drew g2 t [u0, u1, u2]) ∧ Hid (Below w.heap.size w w1.drew) :=
  ⟨(own3 o1.drew).1, (own3 o2.drew).1, Lib.hid o1.drew, Lib.hid o2.drew, Lib.hid hB.drew⟩
theorem two_next {w w1 w2 : World} {g1 g2 : Nat} {t : TypeId} {v0 v1 v2 u0 u1 u2 : Value} (hb : Below w1.heap.size w1 w2)
    (h : (w1.cell? ⟨g1, 0, none⟩ = some v0 ∧ w1.cell? ⟨g1, 1, none⟩ = some v1 ∧ w1.cell? ⟨g1, 2, none⟩ = some v2) ∧ (w1.cell? ⟨g2, 0, none⟩ = some u0 ∧ w1.cell? ⟨g2, 1, none⟩ = some u1 ∧ w1.cell? ⟨g2, 2, none⟩ = some u2) ∧
      Hid (Own w1 g1 t [v0, v1, v2]) ∧ Hid (Own w1 g2 t [u0, u1, u2]) ∧ Hid (Below w.heap.size w w1)) :
    (w2.cell? ⟨g1, 0, none⟩ = some v0 ∧ w2.cell? ⟨g1, 1, none⟩ = some v1 ∧ w2.cell? ⟨g1, 2, none⟩ = some v2) ∧ (w2.cell? ⟨g2, 0, none⟩ = some u0 ∧ w2.cell? ⟨g2, 1, none⟩ = some u1 ∧ w2.cell? ⟨g2, 2, none⟩ = some u2) ∧
      Hid (Own w2 g1 t [v0, v1, v2]) ∧ Hid (Own w2 g2 t [u0, u1, u2]) ∧ Hid (Below w.heap.size w w2) :=
  have o1 := h.2.2.1.out.below hb h.2.2.1.out.lt
  have o2 := h.2.2.2.1.out.below hb h.2.2.2.1.out.lt
  ⟨(own3 o1).1, (own3 o2).1, Lib.hid o1, Lib.hid o2, Lib.hid (grow3 h.2.2.2.2.out hb)⟩

set_option maxHeartbeats 4000000 in
theorem walk_a (k : Int) (s : ByteArray) (n : Int) (k' : Int) (s' : ByteArray) (n' : Int) (h : rightV (k, s, n) = false) (w : World) :
    Calls Try.prog 7 #[.agg #[.int .i64 k, .string s, .int .i64 n], .agg #[.int .i64 k', .string s', .int .i64 n']] w fun e w' => e = .returned (.bool true) ∧ Below w.heap.size w w' := by
  have Q1 := Lib.hid (wright_at k s n false h)
  clear h
  go_enter Try.func7, Try.ntmps7
  go_wp2_with fail
  refine (Q1.out _).mono ?_; rintro e w1 ⟨rfl, hb1⟩
  have B1 := Lib.hid (boxes2 hb1).2.2
  clear hb1
  go_wp2_with fail
  refine (awake_any _).mono ?_; rintro e w2 ⟨rfl, hb2⟩
  have B2 := Lib.hid (grow3 B1.out hb2)
  clear hb2
  go_wp2_with fail
  go_ret
  exact ⟨rfl, B2.out⟩

set_option maxHeartbeats 4000000 in
theorem walk_b (k : Int) (s : ByteArray) (n : Int) (k' : Int) (s' : ByteArray) (n' : Int) (h : rightV (k, s, n) = true) (h' : rightV (k', s', n') = false) (w : World) :
    Calls Try.prog 7 #[.agg #[.int .i64 k, .string s, .int .i64 n], .agg #[.int .i64 k', .string s', .int .i64 n']] w fun e w' => e = .returned (.bool true) ∧ Below w.heap.size w w' := by
  have Q1 := Lib.hid (wright_at k s n true h)
  have Q2 := Lib.hid (wright_at k' s' n' false h')
  clear h h'
  go_enter Try.func7, Try.ntmps7
  go_wp2_with fail
  refine (Q1.out _).mono ?_; rintro e w1 ⟨rfl, hb1⟩
  have B1 := Lib.hid (boxes2 hb1).2.2
  obtain ⟨⟨c0, c1, c2⟩, _, l1⟩ := own3 (boxes2 hb1).2.1
  clear hb1
  go_wp2_with fail
  refine (Q2.out _).mono ?_; rintro e w2 ⟨rfl, hb2⟩
  have B2 := Lib.hid (grow3 B1.out hb2)
  clear hb2
  go_wp2_with fail
  refine (awake_any _).mono ?_; rintro e w3 ⟨rfl, hb3⟩
  have B3 := Lib.hid (grow3 B2.out hb3)
  clear hb3
  go_wp2_with fail
  go_ret
  exact ⟨rfl, B3.out⟩

theorem agree {k : Int} {s : ByteArray} {n : Int} {k' : Int} {s' : ByteArray} {n' : Int} (hn : In n) (hn' : In n') (h : rightV (k, s, n) = true) (h' : rightV (k', s', n') = true) :
    (wput (k, s, n) == wput (k', s', n')) = ((k == k') && (s.toList == s'.toList) && (n == n')) := by
  rw [Bool.eq_iff_iff]
  simp only [beq_iff_eq, Bool.and_eq_true]
  constructor
  · intro e
    have := wput_inj hn hn' h h' e
    have h1 := (Prod.mk.inj this).1
    have h2 := (Prod.mk.inj (Prod.mk.inj this).2).1
    have h3 := (Prod.mk.inj (Prod.mk.inj this).2).2
    subst h1 h2 h3
    exact ⟨⟨rfl, rfl⟩, rfl⟩
  · rintro ⟨⟨rfl, e⟩, rfl⟩
    rw [ByteArray.toList_eq, ByteArray.toList_eq] at e
    rw [bytes_ext e]

set_option maxHeartbeats 8000000 in
theorem walk_c (k : Int) (s : ByteArray) (n : Int) (k' : Int) (s' : ByteArray) (n' : Int) (hn : In n) (hn' : In n') (h : rightV (k, s, n) = true) (h' : rightV (k', s', n') = true) (w : World) :
    Calls Try.prog 7 #[.agg #[.int .i64 k, .string s, .int .i64 n], .agg #[.int .i64 k', .string s', .int .i64 n']] w fun e w' => e = .returned (.bool true) ∧ Below w.heap.size w w' := by
  have hag := agree hn hn' h h'
  obtain ⟨l, hl⟩ : ∃ l, wput (k, s, n) = l := ⟨_, rfl⟩
  obtain ⟨l', hl'⟩ : ∃ l, wput (k', s', n') = l := ⟨_, rfl⟩
  rw [hl, hl'] at hag
  have Q1 := Lib.hid (wright_at k s n true h)
  have Q2 := Lib.hid (wright_at k' s' n' true h')
  have Q3 := Lib.hid (wput_at k s n l hn hl)
  have Q4 := Lib.hid (wput_at k' s' n' l' hn' hl')
  clear h h' hl hl' hn hn'
  rcases b1 : (k == k') <;> rcases b2 : (s.toList == s'.toList) <;> rcases b3 : (n == n')
  all_goals
    rw [b1, b2, b3] at hag
    simp only [Bool.and_true, Bool.and_false] at hag
    go_enter Try.func7, Try.ntmps7
    go_wp2_with fail
    refine (Q1.out _).mono ?_; rintro e w1 ⟨rfl, hb1⟩
    have B1 := Lib.hid (boxes2 hb1)
    obtain ⟨⟨c0, c1, c2⟩, _, l1⟩ := own3 (boxes2 hb1).2.1
    clear hb1
    go_wp2_with fail
    refine (Q2.out _).mono ?_; rintro e w2 ⟨rfl, hb2⟩
    have O1 := Lib.hid (B1.out.1.below hb2 B1.out.1.lt)
    have O2 := Lib.hid (B1.out.2.1.below hb2 B1.out.2.1.lt)
    have B2 := Lib.hid (grow3 B1.out.2.2 hb2)
    clear hb2
    go_wp2_with fail
    go_region_held3 (fun w' => (w'.cell? ⟨w.heap.size, 0, none⟩ = some (.int .i64 k) ∧ w'.cell? ⟨w.heap.size, 1, none⟩ = some (.string s) ∧ w'.cell? ⟨w.heap.size, 2, none⟩ = some (.int .i64 n)) ∧ (w'.cell? ⟨w.heap.size + 1, 0, none⟩ = some (.int .i64 k') ∧ w'.cell? ⟨w.heap.size + 1, 1, none⟩ = some (.string s') ∧ w'.cell? ⟨w.heap.size + 1, 2, none⟩ = some (.int .i64 n')) ∧ Hid (Own w' w.heap.size 25 [.int .i64 k, .string s, .int .i64 n]) ∧ Hid (Own w' (w.heap.size + 1) 25 [.int .i64 k', .string s', .int .i64 n']) ∧ Hid (Below w.heap.size w w'))
      (first | exact two_first O1.out O2.out B2.out | exact two_next hb (by assumption))
      (first | (go_at_call 8; (with_reducible refine (awake_any _).mono ?_); rintro e w' ⟨rfl, hb⟩) | (go_at_call 13; (with_reducible refine (Q3.out _).mono ?_); rintro e w' ⟨rfl, hb⟩) | (go_at_call 13; (with_reducible refine (Q4.out _).mono ?_); rintro e w' ⟨rfl, hb⟩))
    rename_i hHeld
    have B := hHeld.2.2.2.2
    clear hHeld
    go_wp2_with fail
    go_ret
    exact ⟨rfl, B.out⟩

theorem walk (k : Int) (s : ByteArray) (n : Int) (k' : Int) (s' : ByteArray) (n' : Int) (_ : (Lit.int .i64 k).wf = true) (_ : s.size ≤ maxLen) (hn : (Lit.int .i64 n).wf = true)
    (_ : (Lit.int .i64 k').wf = true) (_ : s'.size ≤ maxLen) (hn' : (Lit.int .i64 n').wf = true) (w : World) :
    Calls Try.prog 7 #[.agg #[.int .i64 k, .string s, .int .i64 n], .agg #[.int .i64 k', .string s', .int .i64 n']] w fun e w' => e = .returned (.bool true) ∧ Below w.heap.size w w' := by
  rcases h : rightV (k, s, n)
  · exact walk_a k s n k' s' n' h w
  · rcases h' : rightV (k', s', n')
    · exact walk_b k s n k' s' n' h h' w
    · exact walk_c k s n k' s' n' (in_of_wf hn) (in_of_wf hn') h h' w

set_option maxRecDepth 100000 in
theorem lifted (os : Os) (started : os.Started) (H : Type) (enc : TypeId × Value → H) :
    ReturnsInHanded {} Try.checked os 7 .any (Rows.wordUnlikeSpec.pre6 enc Try.prog Try.f7 Rows.wordUnlikeRow.domain false) (Rows.wordUnlikeSpec.post enc Try.prog Try.f7 false true false false) := by
  refine returnsInHanded_of_change (C := Try.checked) (by kernel_rfl) started (by kernel_rfl) Try.func7
    (ChangeSpec.witness6 (enc := enc) (C := Try.checked) false ⟨#[], #[.agg #[.int .i64 0, .string ⟨#[]⟩, .int .i64 0], .agg #[.int .i64 0, .string ⟨#[]⟩, .int .i64 0]], []⟩ 8 (by kernel_rfl) (by kernel_rfl) (by kernel_rfl) (by kernel_rfl)) ?_
  intro W base args ds gs before hval0 hW hcnd _
  have hval : ∀ (j : Nat) t v, Try.f7.params[j]? = some t → args[j]? = some v → Value.okWide Try.prog W .any base t v := hval0
  have hW' := hW
  obtain ⟨p, q, hA0, hV, rfl, hfz, hnd⟩ := hW
  have hA : DataW.TrodAll enc Try.prog W 0 (fun _ => true) true Try.f7.params.toList args.toList ds p := hA0
  rw [Try.params7] at hA hval
  obtain ⟨v0, vs0, d0, ds0, p0, q0, hargs, rfl, rfl, h0, r0⟩ := trodAll_cons hA
  obtain ⟨v1, vs1, d1, ds1, p1, q1, rfl, rfl, rfl, h1, r1⟩ := trodAll_cons r0
  obtain ⟨rfl, rfl, rfl⟩ := trodAll_nil r1
  obtain rfl : args = #[v0, v1] := by cases args; simp_all
  obtain ⟨rfl, rfl⟩ := trodVars_none hV
  obtain ⟨c00, c01, c02, y00, y01, y02, m0, rfl, rfl, rfl, hy00, hy01, hy02⟩ := Go.Joins.open_agg3 Try.underlying25 (by kernel_rfl) (by kernel_rfl) (hval 0 25 v0 rfl rfl) h0
  obtain ⟨a00, e00, rfl, w00⟩ := DataW.trod_int Try.underlying3 hy00
  obtain ⟨a01, e01, rfl, w01⟩ := DataW.trod_string Try.underlying9 hy01
  obtain ⟨a02, e02, rfl, w02⟩ := DataW.trod_int Try.underlying2 hy02
  simp at e00 e01 e02
  subst e00 e01 e02
  obtain ⟨c10, c11, c12, y10, y11, y12, m1, rfl, rfl, rfl, hy10, hy11, hy12⟩ := Go.Joins.open_agg3 Try.underlying25 (by kernel_rfl) (by kernel_rfl) (hval 1 25 v1 rfl rfl) h1
  obtain ⟨a10, e10, rfl, w10⟩ := DataW.trod_int Try.underlying3 hy10
  obtain ⟨a11, e11, rfl, w11⟩ := DataW.trod_string Try.underlying9 hy11
  obtain ⟨a12, e12, rfl, w12⟩ := DataW.trod_int Try.underlying2 hy12
  simp at e10 e11 e12
  subst e10 e11 e12
  clear hA0 hval0
  simp only [List.append_nil] at hW'
  refine (walk a00 a01 a02 a10 a11 a12 w00 w01 w02 w10 w11 w12 W).mono fun e W' ⟨he, hg⟩ => ?_
  subst he
  exact ⟨_, rfl, Shell.lawPost (by kernel_rfl) rfl (by kernel_rfl) rfl Try.underlying4 hW' rfl hg⟩

/-- The statement. -/
theorem proved : Rows.WordUnlikeSaid :=
  OpenClaim.holds_of_wide 7 Try.f7 rfl rfl rfl rfl rfl rfl rfl ⟨rfl, rfl, rfl, rfl, rfl⟩ rfl rfl rfl rfl rfl (by kernel_rfl) Try.func7 (by kernel_rfl)
    (of_decide_eq_true (by kernel_rfl)) (by unfold Func.isWrapper; first | (rw [if_pos (by decide +kernel)]; kernel_rfl) | (rw [if_neg (by decide +kernel)]; exact ⟨rfl, rfl⟩))
    (fun os started H enc _ => lifted os started H enc)
end Go.Proofs.Ytfihnnfjkhcgkaa.wordUnlike
