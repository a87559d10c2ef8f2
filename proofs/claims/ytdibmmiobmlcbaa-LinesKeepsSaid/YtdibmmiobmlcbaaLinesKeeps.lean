/-
  What is answered is new memory, and what is handed in stays: the statement LinesKeeps. No condition.
-/
import Derived.Test.YtdibmmiobmlcbaaLaw04
import Derived.Test.YtdibmmiobmlcbaaLinesFew
import Derived.Test.YtdibmmiobmlcbaaLinesOpen
import Derived.Test.YtdibmmiobmlcbaaRef04
import Derived.Test.YtdibmmiobmlcbaaShell
import Derived.ProofKit
import Derived.OpenShut
import Derived.SizedLaws
namespace Go.Proofs.Ytdibmmiobmlcbaa.linesKeeps
open Go.ChangeShapes Go.WideShapes Go.ChangeAt Go.RowKit
open LinesM Mem
theorem rsplit_at (s : ByteArray) (out : List Ln) (n y : Nat) (h : splitV s.data.toList = (out, n, y)) (hs : s.size ≤ maxLen) (w : World) :
    Calls Try.prog 10 #[.string s] w fun e w' => ∃ v xs, e = .returned (.tuple #[v, .int .i64 (n : Int), .int .i64 (y : Int)]) ∧ xs.map line = lns out ∧ xs.length ≤ 4194306 ∧ OwnLins 41 9 w.heap.size w'.heap.size w' v xs ∧ Below w.heap.size w w' := by
  have := R04.split_any s w hs
  rw [h] at this
  exact this

/-- While the words of one answer are spoilt: its rows stand, in the blocks from B1 on and below B2; all else is as it was. -/
def Spoil (B1 B2 : Nat) (w wr : World) (v : Value) (xs : List ML) : Prop :=
  wr.ownsRow B1 40 2 v xs.length (cells xs) ∧ (∀ x ∈ xs, (∃ cs, wr.ownsRow B1 9 1 x.2.1 x.2.2.length cs) ∧ ∀ k, x.2.1.ownBlock = some k → k < B2) ∧
    wr.os = w.os ∧ wr.tape = w.tape ∧ wr.output = w.output ∧ wr.heap.size = w.heap.size ∧ ∀ k, (k < B1 ∨ B2 ≤ k) → wr.heap[k]? = w.heap[k]?
variable {B1 B2 : Nat} {w wr : World} {v : Value} {xs : List ML}
theorem Spoil.start {w : World} (h : OwnLins 40 9 B1 B2 w v xs) : Spoil B1 B2 w w v xs :=
  ⟨h.1, fun x hx => ⟨⟨_, (h.2 x hx).1⟩, (h.2 x hx).2⟩, rfl, rfl, rfl, rfl, fun _ _ => rfl⟩
theorem Spoil.below (h : Spoil B1 B2 w wr v xs) : Below B1 w wr := ⟨h.2.2.1, h.2.2.2.1, h.2.2.2.2.1, by rw [h.2.2.2.2.2.1]; exact Nat.le_refl _, fun k hk => h.2.2.2.2.2.2 k (.inl hk)⟩
theorem set_at {w : World} {g q : Nat} {u : Value} {cur : Array Value} {e : TypeId} (h : w.heap[g]? = some (.cells cur e (0, 0))) : (w.setCell ⟨g, q, none⟩ u).heap[g]? = some (.cells (cur.setIfInBounds q u) e (0, 0)) := by
  simp [World.setCell, Array.getElem?_modify, h]
theorem set_off {w : World} {g q k : Nat} {u : Value} (h : k ≠ g) : (w.setCell ⟨g, q, none⟩ u).heap[k]? = w.heap[k]? := Below.heap_setCell w ⟨g, q, none⟩ u k h
theorem own_set {base n g q : Nat} {e : TypeId} {u z : Value} {cs : List Value} (h : wr.ownsRow base e 1 u n cs) : ∃ cs', (wr.setCell ⟨g, q, none⟩ z).ownsRow base e 1 u n cs' := by
  rcases h.2 with ⟨rfl, hn⟩ | ⟨b, cap, cur, rfl, hb, hg, hnc, hcm, hcs, ht⟩
  · exact ⟨cs, h.1, .inl ⟨rfl, hn⟩⟩
  · by_cases hk : b = g
    · subst hk
      refine ⟨(cur.setIfInBounds q z).toList.take (n * 1), ?_, .inr ⟨b, cap, cur.setIfInBounds q z, rfl, hb, ?_, hnc, hcm, by simpa using hcs, rfl⟩⟩
      · rw [List.length_take, Array.length_toList]; simp; omega
      · exact set_at hg
    · exact ⟨cs, h.1, .inr ⟨b, cap, cur, rfl, hb, by rw [set_off hk]; exact hg, hnc, hcm, hcs, ht⟩⟩
theorem own_other {base n g q size : Nat} {e e2 : TypeId} {u z : Value} {cs : List Value} {cur : Array Value} (h : wr.ownsRow base e size u n cs) (hg : wr.heap[g]? = some (.cells cur e2 (0, 0))) (hne : e ≠ e2) : (wr.setCell ⟨g, q, none⟩ z).ownsRow base e size u n cs := by
  rcases h.2 with ⟨rfl, hn⟩ | ⟨b, cap, cur', rfl, hb, hg', r⟩
  · exact ⟨h.1, .inl ⟨rfl, hn⟩⟩
  · have hk : b ≠ g := by
      intro e; subst e
      rw [hg'] at hg
      simp at hg
      exact hne hg.2
    exact ⟨h.1, .inr ⟨b, cap, cur', rfl, hb, by rw [set_off hk]; exact hg', r⟩⟩
/-- the block of a line's words. -/
theorem Spoil.row (h : Spoil B1 B2 w wr v xs) {x : ML} (hx : x ∈ xs) (h0 : 0 < x.2.2.length) : ∃ g cap cur, x.2.1 = .slice (some ⟨g, 0, none⟩) x.2.2.length cap ∧ B1 ≤ g ∧ g < B2 ∧ wr.heap[g]? = some (.cells cur 9 (0, 0)) ∧ x.2.2.length ≤ cur.size := by
  obtain ⟨⟨cs, hr⟩, hk⟩ := h.2.1 x hx
  rcases hr.2 with ⟨_, hn⟩ | ⟨g, cap, cur, e, hb, hg, hnc, hcm, hcs, ht⟩
  · omega
  · exact ⟨g, cap, cur, e, hb, hk g (by rw [e]; rfl), hg, by omega⟩
theorem Spoil.store (h : Spoil B1 B2 w wr v xs) {g q : Nat} {cur : Array Value} {z : Value} (h1 : B1 ≤ g) (h2 : g < B2) (hg : wr.heap[g]? = some (.cells cur 9 (0, 0))) : Spoil B1 B2 w (wr.setCell ⟨g, q, none⟩ z) v xs := by
  obtain ⟨a1, a2, a3, a4, a5, a6, a7⟩ := h
  refine ⟨own_other a1 hg (by decide), fun x hx => ⟨?_, (a2 x hx).2⟩, a3, a4, a5, by rw [← a6]; simp [World.setCell], fun k hk => ?_⟩
  · obtain ⟨cs, hc⟩ := (a2 x hx).1
    exact own_set hc
  · rw [set_off (by omega)]; exact a7 k hk
theorem Spoil.at (h : Spoil B1 B2 w wr v xs) {k : Nat} {x : ML} (hx : xs[k]? = some x) : ∃ g cap, v = .slice (some ⟨g, 0, none⟩) xs.length cap ∧ wr.cell? ⟨g, k * 2 + 1, none⟩ = some x.2.1 := by
  have hk := (List.getElem?_eq_some_iff.1 hx).1
  rcases h.1.2 with ⟨_, hn⟩ | ⟨g, cap, cur, e, _⟩
  · omega
  · refine ⟨g, cap, e, ?_⟩
    have := h.1.cells (g := g) (by rw [e]; rfl) _ _ (cells_at xs k x hx).2
    have e1 : (⟨g, 0, none⟩ : Addr).add (k * 2 + 1) = ⟨g, k * 2 + 1, none⟩ := by unfold Addr.add; simp
    rw [e1] at this
    exact this
theorem Spoil.form (h : Spoil B1 B2 w wr v xs) {x : ML} (hx : x ∈ xs) : ∃ A cap, x.2.1 = .slice A x.2.2.length cap := by
  obtain ⟨⟨cs, hr⟩, _⟩ := h.2.1 x hx
  exact own_form hr
theorem own_above {base n size : Nat} {e : TypeId} {u : Value} {cs : List Value} {w w' : World} (h : w.ownsRow base e size u n cs) (hk : ∀ k, base ≤ k → w'.heap[k]? = w.heap[k]?) : w'.ownsRow base e size u n cs := by
  refine ⟨h.1, ?_⟩
  rcases h.2 with h | ⟨g, cap, cur, rfl, hb, hg, r⟩
  · exact .inl h
  · exact .inr ⟨g, cap, cur, rfl, hb, (hk g hb).trans hg, r⟩
theorem Spoil.len (h : Spoil B1 B2 w wr v xs) {x : ML} (hx : x ∈ xs) : x.2.2.length ≤ 9223372036854775807 := by
  obtain ⟨⟨cs, hr⟩, _⟩ := h.2.1 x hx
  rcases hr.2 with ⟨_, hn⟩ | ⟨g, cap, cur, e, hb, hg, hnc, hcm, _⟩
  · omega
  · unfold maxLen at hcm; omega

set_option maxRecDepth 100000 in
set_option maxHeartbeats 16000000 in
theorem walk (s : ByteArray) (v : Value) (zs : List ML) (hs : s.size ≤ 140737488351232) {w : World} (h : Lins 0 w.heap.size w v zs) :
    Calls Try.prog 8 #[.string s, v] w fun e w' => e = .returned (.bool true) ∧ Below w.heap.size w w' := by
  have HL := Lib.hid h
  clear h
  by_cases hbig : 30000 < s.size
  · have g1 : decide ((30000 : Int) < (s.size : Int)) = true := decide_eq_true (by omega)
    go_enter Try.func8, Try.ntmps8
    go_wp2_with fail
    refine (awake_any _).mono ?_; rintro e w1 ⟨rfl, hb1⟩
    have HL1 := Lib.hid (HL.out.below hb1)
    have HS1 := Lib.hid hb1.size
    have HB1 := Lib.hid hb1
    clear hb1
    go_wp2_with fail
    refine (few_any _ _ _ _ zs HL1.out).mono ?_; rintro e w1 ⟨r, rfl, hf, rfl⟩
    have HF := Lib.hid hf
    clear hf
    cases r
    all_goals
      go_wp2_with fail
      refine (awake_any _).mono ?_; rintro e w2 ⟨rfl, hb2⟩
      have HB2 := Lib.hid (HB1.out.trans (hb2.mono HB1.out.size))
      clear hb2
      go_wp2_with fail
      go_ret
      exact ⟨rfl, HB2.out⟩
  have g1 : decide ((30000 : Int) < (s.size : Int)) = false := decide_eq_false (by omega)
  obtain ⟨⟨out, n, y⟩, hr⟩ : ∃ r, splitV s.data.toList = r := ⟨_, rfl⟩
  have Q1 := Lib.hid fun w => split_at s out n y n y rfl rfl hr (by unfold maxLen; omega) w
  have Q2 := Lib.hid fun w => rsplit_at s out n y hr (by unfold maxLen; omega) w
  clear hr hbig
  go_enter Try.func8, Try.ntmps8
  go_wp2_with fail
  refine (awake_any _).mono ?_; rintro e w1 ⟨rfl, hb1⟩
  have HL1 := Lib.hid (HL.out.below hb1)
  have HS1 := Lib.hid hb1.size
  have HB1 := Lib.hid hb1
  clear hb1
  go_wp2_with fail
  refine (few_any _ _ _ _ zs HL1.out).mono ?_; rintro e w1 ⟨r, rfl, hf, rfl⟩
  have HF := Lib.hid hf
  clear hf
  cases r with
  | false =>
    go_wp2_with fail
    refine (awake_any _).mono ?_; rintro e w2 ⟨rfl, hb2⟩
    have HB2 := Lib.hid (HB1.out.trans (hb2.mono HB1.out.size))
    clear hb2
    go_wp2_with fail
    go_ret
    exact ⟨rfl, HB2.out⟩
  | true =>
  have hT := few_small (HF.out rfl)
  have HT := Lib.hid hT
  have hzn : zs.length ≤ 300 := (HF.out rfl).1
  clear hT HF
  go_wp2_with fail
  refine (Q1.out _).mono ?_; rintro e w2 ⟨v2, xs, rfl, hx, hn, ho2, hb2⟩
  have HO2 := Lib.hid ho2
  have HL2 := Lib.hid (HL1.out.below (hb2.mono HS1.out))
  have HS12 := Lib.hid hb2.size
  have HS2 := Lib.hid (Nat.le_trans HS1.out hb2.size)
  have HB2 := Lib.hid (HB1.out.trans (hb2.mono HB1.out.size))
  clear hx ho2 hb2 HL1
  go_wp2_with fail
  refine (Q1.out _).mono ?_; rintro e w3 ⟨v3, ys, rfl, hy, hn3, ho3, hb3⟩
  have HY := Lib.hid hy
  have HO3 := Lib.hid (HO2.out.below hb3)
  have HR3 := Lib.hid (ho3.lins (by omega))
  have HL3 := Lib.hid (HL2.out.below (hb3.mono HS2.out))
  have HS23 := Lib.hid hb3.size
  have HS3 := Lib.hid (Nat.le_trans HS2.out hb3.size)
  have HB3 := Lib.hid (HB2.out.trans (hb3.mono HB2.out.size))
  clear hy ho3 hb3 HL2 HO2
  go_wp2_with fail
  refine (there_any _ _ _ _ zs HL3.out HS3.out (by omega)).mono ?_; rintro e w4 ⟨v4, rfl, hr4, hb4⟩
  have HW4 := Lib.hid hr4
  have HO4 := Lib.hid (HO3.out.below hb4)
  have HR4 := Lib.hid (HR3.out.below hb4)
  have HL4 := Lib.hid (HL3.out.below (hb4.mono HS3.out))
  have HM4 := Lib.hid (lins_over HL3.out (hb4.mono HS3.out) (Nat.le_trans HS3.out hb4.size) hr4 (Nat.zero_le _))
  have HS34 := Lib.hid hb4.size
  have HB4 := Lib.hid (HB3.out.trans (hb4.mono HB3.out.size))
  clear hr4 hb4 HO3 HR3 HL3
  go_wp2_with fail
  refine (join_any _ _ _ _ zs HM4.out (Nat.le_refl _) HT.out).mono ?_; rintro e w5 ⟨rfl, hb5⟩
  have HW5 := Lib.hid (own_below HW4.out hb5)
  have HSP := Lib.hid (Spoil.start (HO4.out.below hb5))
  have HR5 := Lib.hid (HR4.out.below (hb5.mono HS34.out))
  have HL5 := Lib.hid (HL4.out.below (hb5.mono (Nat.le_trans HS3.out HS34.out)))
  have HS45 := Lib.hid hb5.size
  have HB5 := Lib.hid (HB4.out.trans (hb5.mono HB4.out.size))
  clear hb5 HO4 HR4 HL4 HW4 HM4
  obtain ⟨A2, c2, rfl⟩ := own_form HSP.out.1
  go_wp2_with fail
  go_loopw [12, 13] (fun i _ wr => ∃ k : Nat, k ≤ xs.length ∧ i = .int .i64 k ∧ Hid (Spoil w1.heap.size w2.heap.size w5 wr (.slice A2 xs.length c2) xs)) (fun i _ _ => xs.length - (intOf i).toNat)
  case atStart => exact ⟨0, Nat.zero_le _, rfl, HSP⟩
  case round =>
  obtain ⟨k, hk, rfl, HP⟩ := hrel
  by_cases hlt : k < xs.length
  · obtain ⟨x, hx⟩ : ∃ x, xs[k]? = some x := ⟨_, List.getElem?_eq_getElem hlt⟩
    obtain ⟨N, u, ws⟩ := x
    have hmem := List.mem_of_getElem? hx
    obtain ⟨A1, p1, e1⟩ := HP.out.form hmem
    simp only at e1
    subst e1
    have hwl := HP.out.len hmem
    simp only at hwl
    have HX := Lib.hid hx
    have HMM := Lib.hid hmem
    clear hx hmem
    obtain ⟨wo, rfl⟩ : ∃ wo : World, wo = wr := ⟨_, rfl⟩
    go_wp2
    go_loopw [13] (fun j wq => ∃ q : Nat, q ≤ ws.length ∧ j = .int .i64 q ∧ Hid (Spoil w1.heap.size w2.heap.size w5 wq (.slice A2 xs.length c2) xs)) (fun j _ => ws.length - (intOf j).toNat)
    case atStart => exact ⟨0, Nat.zero_le _, rfl, HP⟩
    case round =>
    obtain ⟨q, hq, rfl, HQ⟩ := hrel
    obtain ⟨g0, cap0, e0, d1⟩ := HQ.out.at HX.out
    obtain ⟨rfl, rfl⟩ : A2 = some ⟨g0, 0, none⟩ ∧ c2 = cap0 := by simpa using e0
    clear e0
    by_cases hqt : q < ws.length
    · obtain ⟨g, cap, cur, e2, b1, b2, hg, hsz⟩ := HQ.out.row HMM.out (by show 0 < ws.length; omega)
      simp only at e2 hsz d1
      obtain ⟨rfl, rfl⟩ : A1 = some ⟨g, 0, none⟩ ∧ p1 = cap := by simpa using e2
      obtain ⟨z0, hz0⟩ : ∃ z0, cur[q]? = some z0 := ⟨_, Array.getElem?_eq_getElem (by omega)⟩
      have d2 : wr.cell? ⟨g, q, none⟩ = some z0 := by rw [cell_of_row wr g q cur _ _ hg]; exact hz0
      have d3 : wr.frozen? ⟨g, q, none⟩ = false := by simp [World.frozen?, hg]
      have HST := Lib.hid (HQ.out.store (q := q) (z := .string ⟨#[115, 112, 111, 105, 108, 116]⟩) b1 b2 hg)
      clear e2 hg hsz hz0
      go_wp2
      go_roundw
      case rel => exact ⟨q + 1, by omega, by go_num, HST⟩
      case measure => simp [intOf]; omega
    · simp only at d1
      go_wp2
      go_roundw
      case rel => exact ⟨k + 1, by omega, by go_num, HQ⟩
      case measure => simp [intOf]; omega
  · have hb6 := HP.out.below
    have hz6 : wr.heap.size = w5.heap.size := HP.out.2.2.2.2.2.1
    have hk6 := HP.out.2.2.2.2.2.2
    have HR6 := Lib.hid (HR5.out.move fun k h1 _ => hk6 k (.inr h1))
    have HL6 := Lib.hid (HL5.out.below (hb6.mono HS1.out))
    have hw6 := own_above HW5.out (w' := wr) fun k h1 => hk6 k (.inr (Nat.le_trans HS23.out h1))
    have hn6 : wr.heap.size = w5.heap.size := hz6
    have HM6 := Lib.hid (Lins.of_own (lo := 0) (hi := wr.heap.size) hw6 (by omega) (Nat.zero_le _) (Nat.le_refl _) fun x hx => (Lins_strs HL6.out x hx).wide (Nat.le_refl _) (Nat.le_trans HB5.out.size hb6.size))
    have HS6 := Lib.hid (Nat.le_trans (Nat.le_trans HS34.out HS45.out) hb6.size)
    have HB6 := Lib.hid (HB5.out.trans (hb6.mono HS1.out))
    clear hb6 hz6 hk6 hw6 hn6 HR5 HL5 HW5 HSP HP
    go_wp2_with fail
    refine (Q2.out _).mono ?_; rintro e w7 ⟨v7, us, rfl, hu, hn7, ho7, hb7⟩
    have HU := Lib.hid hu
    have HU7 := Lib.hid (ho7.lins (by omega))
    have HR7 := Lib.hid (HR6.out.below (hb7.mono HS6.out))
    have HM7 := Lib.hid (HM6.out.below hb7)
    have HL7 := Lib.hid (HL6.out.below (hb7.mono HB6.out.size))
    have HS67 := Lib.hid hb7.size
    have HS7 := Lib.hid (Nat.le_trans HS6.out hb7.size)
    have HB7 := Lib.hid (HB6.out.trans (hb7.mono HB6.out.size))
    clear hu ho7 hb7 HR6 HM6 HL6
    go_wp2_with fail
    refine (back_any _ _ _ _ ys HR7.out HS7.out (by omega)).mono ?_; rintro e w8 ⟨v8, rfl, hr8, hb8⟩
    have HA8 := Lib.hid (lins_over HR7.out (hb8.mono HS7.out) (Nat.le_trans HS7.out hb8.size) hr8 (Nat.le_trans HS23.out HS7.out))
    have HU8 := Lib.hid (HU7.out.below hb8)
    have HM8 := Lib.hid (HM7.out.below (hb8.mono HS67.out))
    have HL8 := Lib.hid (HL7.out.below (hb8.mono HB7.out.size))
    have HS78 := Lib.hid hb8.size
    have HS68 := Lib.hid (Nat.le_trans HS67.out hb8.size)
    have HB8 := Lib.hid (HB7.out.trans (hb8.mono HB7.out.size))
    clear hr8 hb8 HR7 HU7 HM7 HL7
    go_wp2_with fail
    refine (same_any true _ _ _ _ _ _ _ ys us HA8.out HU8.out (Nat.le_refl _) HS78.out (alike_of (by rw [HY.out, HU.out]))).mono ?_; rintro e w9 ⟨rfl, hb9⟩
    have HM9 := Lib.hid (HM8.out.below (hb9.mono HS68.out))
    have HL9 := Lib.hid (HL8.out.below (hb9.mono HB8.out.size))
    have HS69 := Lib.hid (Nat.le_trans HS68.out hb9.size)
    have HB9 := Lib.hid (HB8.out.trans (hb9.mono HB8.out.size))
    clear hb9 HA8 HU8 HM8 HL8
    go_wp2_with fail
    refine (back_any _ _ _ _ zs HM9.out HS69.out (by omega)).mono ?_; rintro e wa ⟨va, rfl, hra, hba⟩
    have HAa := Lib.hid (lins_over HM9.out (hba.mono HS69.out) (Nat.le_trans HS69.out hba.size) hra (Nat.zero_le _))
    have HLa := Lib.hid (HL9.out.below (hba.mono HB9.out.size))
    have HBa := Lib.hid (HB9.out.trans (hba.mono HB9.out.size))
    clear hra hba HM9 HL9
    go_wp2_with fail
    refine (same_any true _ _ _ _ _ _ _ zs zs HAa.out HLa.out (Nat.le_refl _) HBa.out.size (alike_of rfl)).mono ?_; rintro e wb ⟨rfl, hbb⟩
    have HBb := Lib.hid (HBa.out.trans (hbb.mono HBa.out.size))
    clear hbb
    go_wp2_with fail
    go_ret
    exact ⟨rfl, HBb.out⟩

set_option maxRecDepth 100000 in
theorem lifted (os : Os) (started : os.Started) (H : Type) (enc : TypeId × Value → H) :
    ReturnsInHanded {} Try.checked os 8 .any (Rows.linesKeepsSpec.pre6 enc Try.prog Try.f8 Rows.linesKeepsRow.domain false) (Rows.linesKeepsSpec.post enc Try.prog Try.f8 false true false false) := by
  refine returnsInHanded_of_change_sized (C := Try.checked) (by kernel_rfl) started (by kernel_rfl) Try.func8
    (ChangeSpec.witness6 (enc := enc) (C := Try.checked) false ⟨#[], #[.string ⟨#[]⟩, .slice none 0 0], []⟩ 8 (by kernel_rfl) (by kernel_rfl) (by kernel_rfl) (by kernel_rfl)) ?_
  intro W base args ds gs before hval0 hW hcnd hsz0 _
  have hval : ∀ (j : Nat) t v, Try.f8.params[j]? = some t → args[j]? = some v → Value.okWide Try.prog W .any base t v := hval0
  have hW' := hW
  obtain ⟨p, q, hA0, hV, rfl, hfz, hnd⟩ := hW
  have hsz : (DataW.weightsEach Try.prog (Try.f8.params.toList ++ Rows.linesKeepsSpec.plain.varTypes Try.prog) (ds ++ gs)).all (· ≤ reachBytes) = true := hsz0
  have hA : DataW.TrodAll enc Try.prog W 0 (fun _ => true) true Try.f8.params.toList args.toList ds p := hA0
  rw [Try.params8] at hA hval hsz
  obtain ⟨v0, vs0, d0, ds0, p0, q0, hargs, rfl, rfl, h0, r0⟩ := trodAll_cons hA
  obtain ⟨v1, vs1, d1, ds1, p1, q1, rfl, rfl, rfl, h1, r1⟩ := trodAll_cons r0
  obtain ⟨rfl, rfl, rfl⟩ := trodAll_nil r1
  obtain rfl : args = #[v0, v1] := by cases args; simp_all
  obtain ⟨rfl, rfl⟩ := trodVars_none hV
  obtain ⟨a0, rfl, rfl, rfl, _⟩ := Go.ChangeMaps.open_string Try.underlying9 (hval 0 9 v0 rfl rfl) h0
  obtain ⟨xs1, hL1⟩ := open_lins hsz (j := 1) rfl rfl (hval 1 26 v1 rfl rfl) h1
  have z0 : a0.size ≤ 140737488351232 := Shell.reach_string hsz (j := 0) (t := 9) rfl rfl
  clear hA0 hval0
  simp only [List.append_nil] at hW'
  refine (walk a0 v1 xs1 z0 hL1).mono fun e W' ⟨he, hg⟩ => ?_
  subst he
  exact ⟨_, rfl, Shell.lawPost (by kernel_rfl) rfl (by kernel_rfl) rfl Try.underlying4 hW' rfl hg⟩

/-- The statement. -/
theorem proved : Rows.LinesKeepsSaid :=
  OpenClaim.holds_of_wide 8 Try.f8 rfl rfl rfl rfl rfl rfl rfl ⟨rfl, rfl, rfl, rfl, rfl⟩ rfl rfl rfl rfl rfl (by kernel_rfl) Try.func8 (by kernel_rfl)
    (of_decide_eq_true (by kernel_rfl)) (by unfold Func.isWrapper; first | (rw [if_pos (by decide +kernel)]; kernel_rfl) | (rw [if_neg (by decide +kernel)]; exact ⟨rfl, rfl⟩))
    (fun os started H enc _ => lifted os started H enc)
end Go.Proofs.Ytdibmmiobmlcbaa.linesKeeps
