/-
  Layer 12: what liveness is, place by place. Plain; and the document's In.
-/
import Derived.Test.YtaeklfljibjpiaaLvOk
import Derived.Test.YtaeklfljibjpiaaLvIns
import Derived.Test.YtaeklfljibjpiaaLvRef
import Derived.Test.YtaeklfljibjpiaaLvRefU
namespace Go.Proofs.Ytaeklfljibjpiaa.Lv12
open Go.RowKit Api Mem Sh8 Go.Maps

theorem setsL_not {i : Instr} {r : List Instr} {x : Wd} : x ∉ setsL (i :: r) ↔ ¬ (i.dst ≠ [] ∧ x = i.dst) ∧ x ∉ setsL r := by
  unfold setsL
  by_cases e : i.dst = []
  · simp [e]
  · simp [e]
theorem backP_or {A B : Wd → Prop} (x : Wd) : ∀ l : List Instr, BackP l (fun y => A y ∨ B y) x ↔ BackP l A x ∨ (x ∉ setsL l ∧ B x)
  | [] => by
    show A x ∨ B x ↔ A x ∨ (x ∉ setsL [] ∧ B x)
    simp [setsL]
  | i :: r => by
    have ih := backP_or (A := A) (B := B) x r
    show x ∈ usesI i ∨ (¬ (i.dst ≠ [] ∧ x = i.dst) ∧ BackP r (fun y => A y ∨ B y) x) ↔ (x ∈ usesI i ∨ (¬ (i.dst ≠ [] ∧ x = i.dst) ∧ BackP r A x)) ∨ (x ∉ setsL (i :: r) ∧ B x)
    rw [ih, setsL_not]
    by_cases h1 : x ∈ usesI i <;> by_cases h2 : i.dst ≠ [] ∧ x = i.dst <;> simp [h1, h2]
section
variable {bl : List Api.Block} {i : Nat} {b : Api.Block}
theorem SF_in (h : bl[i]? = some b) : SF bl bl.length (4 * i) = phS (setsPh bl bl.length) (usesPh bl (EG bl) bl.length) (4 * i) ∧ SF bl bl.length (4 * i + 1) = orS (fun _ => false) (setsL b.code) ∧ SF bl bl.length (4 * i + 2) = endS bl i b ∧ SF bl bl.length (4 * i + 3) = backL b.code (endS bl i b) := by
  have hl := (List.getElem?_eq_some_iff.1 h).1
  refine ⟨?_, ?_, ?_, ?_⟩
  · unfold SF
    rw [show 4 * i / 4 = i by omega, h]
    simp only
    rw [if_pos hl, if_pos (by omega)]
  · unfold SF
    rw [show (4 * i + 1) / 4 = i by omega, h]
    simp only
    rw [if_pos hl, if_neg (by omega), if_pos (by omega)]
  · unfold SF
    rw [show (4 * i + 2) / 4 = i by omega, h]
    simp only
    rw [if_pos hl, if_neg (by omega), if_neg (by omega), if_pos (by omega)]
  · unfold SF
    rw [show (4 * i + 3) / 4 = i by omega, h]
    simp only
    rw [if_pos hl, if_neg (by omega), if_neg (by omega), if_neg (by omega)]
/-- what is live at the first place of a block is what is live at its place 0. -/
theorem lv_at0 (h : bl[i]? = some b) (x : Wd) : LvB bl i x ↔ AtL bl i b 0 x := by
  obtain ⟨-, s1, s2, s3⟩ := SF_in h
  have hl := (List.getElem?_eq_some_iff.1 h).1
  unfold AtL
  rw [List.drop_zero]
  have e : BackP b.code (LastP bl i) x ↔ BackP b.code (fun y => endS bl i b y = true) x ∨ (x ∉ setsL b.code ∧ ∃ t, t ∈ dsts (EG bl) i ∧ LvB bl t x ∧ SF bl bl.length (4 * t) x = false) := by
    have hq := backP_or (A := fun y => endS bl i b y = true) (B := fun y => ∃ t, t ∈ dsts (EG bl) i ∧ LvB bl t y ∧ SF bl bl.length (4 * t) y = false) x b.code
    have : LastP bl i = fun y => endS bl i b y = true ∨ ∃ t, t ∈ dsts (EG bl) i ∧ LvB bl t y ∧ SF bl bl.length (4 * t) y = false := funext fun y => by unfold LastP; rw [s2]
    rw [this]
    exact hq
  rw [e]
  constructor
  · intro hv
    cases hv with
    | gen hg =>
      left
      unfold GG at hg
      rw [Bool.and_eq_true, s3] at hg
      exact (backL_iff (fun y => Iff.rfl) x).1 hg.2
    | step he hlv hp hx =>
      right
      refine ⟨fun hm => ?_, _, mem_dsts.2 he, hlv, hp⟩
      rw [s1] at hx
      simp [orS, hm] at hx
  · rintro (hg | ⟨hx, t, ht, hv, hp⟩)
    · refine .gen ?_
      unfold GG
      rw [decide_eq_true hl, s3, Bool.true_and]
      exact (backL_iff (fun y => Iff.rfl) x).2 hg
    · refine .step (mem_dsts.1 ht) hv hp ?_
      rw [s1]
      simp [orS, hx]
/-- going back over one instruction. -/
theorem at_step {c : Instr} {k : Nat} (h : b.code[k]? = some c) (x : Wd) : AtL bl i b k x ↔ x ∈ usesI c ∨ (¬ (c.dst ≠ [] ∧ x = c.dst) ∧ AtL bl i b (k + 1) x) := by
  obtain ⟨h1, h2⟩ := List.getElem?_eq_some_iff.1 h
  unfold AtL
  rw [List.drop_eq_getElem_cons h1, h2]
  exact Iff.rfl
theorem at_last (x : Wd) : AtL bl i b b.code.length x ↔ LastP bl i x := by
  unfold AtL
  rw [List.drop_length]
  exact Iff.rfl
theorem mem_setsPh {t : Nat} {y : Wd} {n : Nat} : (t, y) ∈ setsPh bl n ↔ t < n ∧ ∃ c, bl[t]? = some c ∧ ∃ p ∈ c.phis, p.dst = y := by
  unfold setsPh
  rw [List.mem_flatMap]
  constructor
  · rintro ⟨k, hk, h⟩
    split at h
    · rename_i c hc
      unfold setsB at h
      obtain ⟨p, hp, e⟩ := List.mem_map.1 h
      cases e
      exact ⟨List.mem_range.1 hk, c, hc, p, hp, rfl⟩
    · cases h
  · rintro ⟨hk, c, hc, p, hp, rfl⟩
    refine ⟨t, List.mem_range.2 hk, ?_⟩
    rw [hc]
    exact List.mem_map.2 ⟨p, hp, rfl⟩
theorem phi_iff {t : Nat} {c : Api.Block} (h : bl[t]? = some c) (y : Wd) : SF bl bl.length (4 * t) y = true ↔ ∃ p ∈ c.phis, p.dst = y := by
  rw [(SF_in h).1]
  unfold phS
  rw [if_pos (by omega), decide_eq_true_iff, show 4 * t / 4 = t by omega, mem_setsPh]
  exact ⟨fun ⟨_, c', h1, h2⟩ => by rw [h] at h1; cases h1; exact h2, fun h2 => ⟨(List.getElem?_eq_some_iff.1 h).1, c, h, h2⟩⟩
/-- what is live behind the phis of a block to which this one leads, and isn't set by them, is live at the last place. -/
theorem last_of {t : Nat} {c : Api.Block} {d y : Wd} (hb : bl[i]? = some b) (hd : d ∈ b.fin.dest) (hp : plc (names bl) d = some t) (hc : bl[t]? = some c) (hv : LvB bl t y) (hn : ¬ ∃ p ∈ c.phis, p.dst = y) : LastP bl i y := by
  refine .inr ⟨t, mem_dsts.2 ?_, hv, ?_⟩
  · refine List.mem_flatMap.2 ⟨i, List.mem_range.2 (List.getElem?_eq_some_iff.1 hb).1, ?_⟩
    unfold edgesOf
    rw [hb]
    exact List.mem_map.2 ⟨d, hd, by rw [hp]; rfl⟩
  · cases e : SF bl bl.length (4 * t) y with
    | false => rfl
    | true => exact absurd ((phi_iff hc y).1 e) hn
end
theorem backP_in {S : Wd → Prop} {x : Wd} : ∀ {l : List Instr}, BackP l S x → (∃ c ∈ l, x ∈ usesI c) ∨ S x
  | [], h => .inr h
  | i :: r, h => by
    rcases h with h | ⟨_, h⟩
    · exact .inl ⟨i, by simp, h⟩
    · rcases backP_in h with ⟨c, hc, hx⟩ | h
      · exact .inl ⟨c, by simp [hc], hx⟩
      · exact .inr h
theorem endS_in {U : List Wd} {bl : List Api.Block} (ho : FOk U bl) {i : Nat} {b : Api.Block} (hb : bl[i]? = some b) {x : Wd} (h : endS bl i b x = true) : x ∈ U := by
  unfold endS orS at h
  rw [Bool.or_eq_true, decide_eq_true_iff, decide_eq_true_iff] at h
  rcases h with h | h
  · obtain ⟨t, _, h⟩ := List.mem_flatMap.1 h
    split at h
    · rename_i c hc
      obtain ⟨p, hp, h⟩ := List.mem_flatMap.1 h
      obtain ⟨q, hq, h⟩ := List.mem_flatMap.1 h
      unfold pairsIn at h
      split at h
      · split at h
        · obtain ⟨y, hy, e⟩ := List.mem_map.1 h
          cases e
          exact ((ho.ph c (List.mem_of_getElem? hc) p hp).2 q hq).2 x hy
        · cases h
      · cases h
    · cases h
  · exact ho.uT b (List.mem_of_getElem? hb) x h
theorem lv_in {U : List Wd} {bl : List Api.Block} (ho : FOk U bl) : ∀ i x, LvB bl i x → x ∈ U := by
  intro i x h
  induction h with
  | @gen i x hg =>
    unfold GG at hg
    rw [Bool.and_eq_true, decide_eq_true_iff] at hg
    obtain ⟨b, hb⟩ : ∃ b, bl[i]? = some b := ⟨_, List.getElem?_eq_getElem hg.1⟩
    rw [(SF_in hb).2.2.2] at hg
    rcases backP_in ((backL_iff (fun y => Iff.rfl) x).1 hg.2) with ⟨c, hc, hx⟩ | h
    · exact (ho.uI b (List.mem_of_getElem? hb) c hc).2 x hx
    · exact endS_in ho hb h
  | step _ _ _ _ ih => exact ih
theorem at_in {U : List Wd} {bl : List Api.Block} (ho : FOk U bl) {i : Nat} {b : Api.Block} (hb : bl[i]? = some b) {k : Nat} {x : Wd} (h : AtL bl i b k x) : x ∈ U := by
  rcases backP_in h with ⟨c, hc, hx⟩ | h
  · exact (ho.uI b (List.mem_of_getElem? hb) c (List.mem_of_mem_drop hc)).2 x hx
  · rcases h with h | ⟨t, _, h, _⟩
    · rw [(SF_in hb).2.2.1] at h
      exact endS_in ho hb h
    · exact lv_in ho _ _ h
theorem same_yes {w : World} {base base2 : Nat} {A B : Option Addr} {c d : Nat} {a b : List Wd} (ha : w.ownsRow base 9 1 (.slice A a.length c) a.length (a.map str)) (hb : w.ownsRow base2 9 1 (.slice B b.length d) b.length (b.map str)) (la : a.length ≤ 1000000000000) (lb : b.length ≤ 1000000000000) (e : a = b) :
    Calls Try.prog 15 #[.slice A a.length c, .slice B b.length d] w fun e w' => e = .returned (.bool true) ∧ Below w.heap.size w w' :=
  (same12_any _ _ _ _ w _ _ a b (texts_own ha rfl (by omega)) (texts_own hb rfl (by omega)) (Nat.le_refl _) (Nat.le_refl _)).mono (by
    rintro e' w' ⟨q, rfl, h1, h2⟩
    obtain rfl : q = true := h1.2 e
    exact ⟨rfl, h2⟩)
set_option maxRecDepth 100000 in
set_option maxHeartbeats 8000000 in
theorem in12_any (lo hi : Nat) (w : World) (v : Value) (l : List Wd) (s : Wd) (hl : Texts lo hi w v l) (hh : hi ≤ w.heap.size) :
    Calls Try.prog 10 #[v, str s] w (Fl9.BP9 (s ∈ l) w) := by
  obtain ⟨A1, k1, rfl⟩ := Row.form hl
  have hll : l.length ≤ 4611686018427387903 := by obtain ⟨_, _, _, h, _⟩ := Row.get hl; exact h
  have HL := Lib.hid hl
  clear hl
  go_enter Try.func10, Try.ntmps10
  go_wp2_with fail
  go_loopw [5] (fun iv wr => ∃ k : Nat, k ≤ l.length ∧ iv = .int .i64 k ∧ Hid (s ∉ l.take k) ∧ wr = w) (fun iv _ => l.length - (intOf iv).toNat)
  case atStart => exact ⟨0, Nat.zero_le _, rfl, Lib.hid (by simp), rfl⟩
  case round =>
  obtain ⟨k, hk, rfl, HN, rfl⟩ := hrel
  by_cases hlt : k < l.length
  · obtain ⟨x, hx⟩ : ∃ x, l[k]? = some x := ⟨_, List.getElem?_eq_getElem hlt⟩
    obtain ⟨b6, o6, rfl, hb6, cs6, hcl6, hcs6, rfl⟩ := row_at HL.out hx
    have n0 := hcs6 0 _ rfl
    simp only [Nat.mul_one, Nat.add_zero] at n0
    have HX := Lib.hid hx
    obtain ⟨d, hd⟩ : ∃ d, decide (x = s) = d := ⟨_, rfl⟩
    have hdd : (x == s) = d := by
      rw [← hd]
      by_cases e : x = s <;> simp [e]
    have HD := Lib.hid hd
    clear hx hcs6 hd
    cases d with
    | true =>
      go_wp2_with fail
      go_ret
      exact ⟨true, rfl, ⟨fun _ => by rw [← of_decide_eq_true HD.out]; exact List.mem_of_getElem? HX.out, fun _ => rfl⟩, Below.refl _ _⟩
    | false =>
      go_wp2_with fail
      go_roundw
      case rel => exact ⟨k + 1, by omega, by go_num, Lib.hid (by
        rw [take_at HX.out, List.mem_append, not_or]
        exact ⟨HN.out, by rw [List.mem_singleton]; exact fun e => of_decide_eq_false HD.out e.symm⟩), trivial⟩
      case measure => simp [intOf]; omega
  · obtain rfl : k = l.length := by omega
    have HF := Lib.hid (show s ∉ l by have := HN.out; rwa [List.take_length] at this)
    go_wp2_with fail
    go_ret
    exact ⟨false, rfl, ⟨fun h => (by cases h), fun h => absurd h HF.out⟩, Below.refl _ _⟩
end Go.Proofs.Ytaeklfljibjpiaa.Lv12
