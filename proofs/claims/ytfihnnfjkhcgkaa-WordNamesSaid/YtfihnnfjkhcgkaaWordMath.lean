/-
  Plain facts on names and arguments as words: what a name is, which argument is right, its word, and back. No program is named here.
-/
import Derived.Test.YtfihnnfjkhcgkaaRef01Math
import Derived.Test.YtfihnnfjkhcgkaaFloHex
namespace Go.Proofs.Ytfihnnfjkhcgkaa.WordM
open Go.RowKit NumM FloM

/-- a digit. -/
def digB (c : UInt8) : Bool := decide (48 ≤ (c.toNat : Int)) && decide ((c.toNat : Int) ≤ 57)
/-- a letter. -/
def letB (c : UInt8) : Bool := decide (97 ≤ (c.toNat : Int)) && decide ((c.toNat : Int) ≤ 122) || decide (65 ≤ (c.toNat : Int)) && decide ((c.toNat : Int) ≤ 90) || ((c.toNat : Int) == 95)
def nullL : List UInt8 := [110, 117, 108, 108]
def intL : List UInt8 := [105, 110, 116]
def floatL : List UInt8 := [102, 108, 111, 97, 116]
/-- word.Name. -/
def nameV (l : List UInt8) : Bool :=
  decide (1 ≤ l.length) && decide (l.length ≤ 16) && !(digB (l.headD 0)) && l.all (fun c => letB c || digB c) && (l != nullL) && (l != intL) && (l != floatL)

/-- an argument: its kind, its name, its number. -/
abbrev A := Int × ByteArray × Int
def val (a : A) : Value := .agg #[.int .i64 a.1, .string a.2.1, .int .i64 a.2.2]
def e0 : ByteArray := ⟨#[]⟩
def zero : A := (0, e0, 0)
/-- word.Right. -/
def rightV (a : A) : Bool :=
  if a.1 = 1 then (a.2.2 == 0) && nameV a.2.1.data.toList
  else if a.1 = 2 then a.2.1.data.toList == []
  else if a.1 = 3 then (a.2.1.data.toList == []) && (plainV a.2.2 == a.2.2)
  else if a.1 = 4 then (a.2.1.data.toList == []) && (a.2.2 == 0)
  else if a.1 = 5 then (a.2.1.data.toList == []) && decide (0 ≤ a.2.2) && decide (a.2.2 ≤ 999)
  else false
/-- word.Put. -/
def wput (a : A) : List UInt8 :=
  if rightV a = true then
    (if a.1 = 2 then dec a.2.2 else if a.1 = 3 then putV a.2.2 else if a.1 = 4 then nullL else if a.1 = 5 then 35 :: dec a.2.2 else a.2.1.data.toList)
  else []
/-- word.read. -/
def wread (s : ByteArray) : A × Bool :=
  match s.data.toList with
  | [] => (zero, false)
  | c :: t =>
    if c = 35 then ((5, e0, (getV t).1), (getV t).2)
    else if c = 45 ∨ (49 ≤ c.toNat ∧ c.toNat ≤ 57) then ((2, e0, (getV (c :: t)).1), (getV (c :: t)).2)
    else if c = 48 then (if c :: t = [48] then ((2, e0, 0), true) else ((3, e0, (fgetV (c :: t)).1), (fgetV (c :: t)).2))
    else if c :: t = nullL then ((4, e0, 0), true)
    else ((1, s, 0), true)
/-- word.Get. -/
def wget (s : ByteArray) : A × Bool := if (wread s).2 = true ∧ rightV (wread s).1 = true then ((wread s).1, true) else (zero, false)

theorem bytes_of (s : ByteArray) : (⟨s.data.toList.toArray⟩ : ByteArray) = s := by cases s; simp
theorem bytes_ext {s t : ByteArray} (h : s.data.toList = t.data.toList) : s = t := by rw [← bytes_of s, h, bytes_of]
theorem bytes_nil {s : ByteArray} (h : s.data.toList = []) : s = e0 := bytes_ext h

theorem digs_first (m : Nat) (h : 0 < m) : ∃ c t, digs m = c :: t ∧ 49 ≤ c.toNat ∧ c.toNat ≤ 57 := by
  rw [digs_last]
  split
  · refine ⟨dig m, [], rfl, ?_⟩
    have := dig_val m
    omega
  · rename_i hr
    obtain ⟨c, t, he, hc⟩ := digs_first (m / 10) (by omega)
    exact ⟨c, t ++ [dig m], by rw [he]; rfl, hc⟩
termination_by m
decreasing_by omega

theorem dec_zero : dec 0 = [48] := by decide +kernel
theorem dec_first (n : Int) : (n = 0 ∧ dec n = [48]) ∨ ∃ c t, dec n = c :: t ∧ (c = 45 ∨ (49 ≤ c.toNat ∧ c.toNat ≤ 57)) := by
  by_cases h0 : n = 0
  · subst h0; exact .inl ⟨rfl, dec_zero⟩
  · right
    by_cases h : n < 0
    · exact ⟨45, digs n.natAbs, by rw [dec, if_pos h], .inl rfl⟩
    · obtain ⟨c, t, he, hc⟩ := digs_first n.natAbs (by omega)
      exact ⟨c, t, by rw [dec, if_neg h, he], .inr hc⟩
theorem putV_first (n : Int) : ∃ t, putV n = 48 :: 102 :: t := ⟨hexs 16 (fl n), by unfold putV; rw [List.cons_append, List.cons_append, List.nil_append]⟩

theorem let_val {c : UInt8} (h : letB c = true) : (97 ≤ c.toNat ∧ c.toNat ≤ 122) ∨ (65 ≤ c.toNat ∧ c.toNat ≤ 90) ∨ c.toNat = 95 := by
  simp [letB] at h
  omega
theorem name_parts {l : List UInt8} (h : nameV l = true) : ∃ c t, l = c :: t ∧ letB c = true ∧ l ≠ nullL ∧ l.length ≤ 16 := by
  unfold nameV at h
  simp only [Bool.and_eq_true, decide_eq_true_eq] at h
  obtain ⟨⟨⟨⟨⟨⟨h1, h2⟩, h3⟩, h4⟩, h5⟩, _⟩, _⟩ := h
  cases l with
  | nil => simp at h1
  | cons c t =>
    refine ⟨c, t, rfl, ?_, by simpa using h5, h2⟩
    rw [List.all_cons] at h4
    have h6 : digB c = false := by simpa using h3
    simp only [Bool.and_eq_true, Bool.or_eq_true, h6] at h4
    simpa using h4.1

theorem ne_of_toNat {c d : UInt8} (h : c.toNat ≠ d.toNat) : c ≠ d := fun e => h (by rw [e])

/-- what is right is one of five. -/
theorem right_cases {a : A} (h : rightV a = true) :
    (∃ s, a = (1, s, 0) ∧ nameV s.data.toList = true) ∨ (∃ n, a = (2, e0, n)) ∨ (∃ n, a = (3, e0, n) ∧ plainV n = n) ∨ a = (4, e0, 0) ∨ (∃ n, a = (5, e0, n) ∧ 0 ≤ n ∧ n ≤ 999) := by
  obtain ⟨k, s, n⟩ := a
  unfold rightV at h
  simp only at h
  split at h
  · rename_i hk; subst hk
    simp only [Bool.and_eq_true, beq_iff_eq] at h
    obtain ⟨rfl, h2⟩ := h
    exact .inl ⟨s, rfl, h2⟩
  · split at h
    · rename_i hk; subst hk
      obtain rfl := bytes_nil (by simpa using h)
      exact .inr (.inl ⟨n, rfl⟩)
    · split at h
      · rename_i hk; subst hk
        simp only [Bool.and_eq_true, beq_iff_eq] at h
        obtain ⟨h1, h2⟩ := h
        obtain rfl := bytes_nil h1
        exact .inr (.inr (.inl ⟨n, rfl, h2⟩))
      · split at h
        · rename_i hk; subst hk
          simp only [Bool.and_eq_true, beq_iff_eq] at h
          obtain ⟨h1, rfl⟩ := h
          obtain rfl := bytes_nil h1
          exact .inr (.inr (.inr (.inl rfl)))
        · split at h
          · rename_i hk; subst hk
            simp only [Bool.and_eq_true, beq_iff_eq, decide_eq_true_eq] at h
            obtain ⟨⟨h1, h2⟩, h3⟩ := h
            obtain rfl := bytes_nil h1
            exact .inr (.inr (.inr (.inr ⟨n, rfl, h2, h3⟩)))
          · simp at h

theorem right1 {s : ByteArray} (h : nameV s.data.toList = true) : rightV (1, s, 0) = true := by simp [rightV, h]
theorem right2 (n : Int) : rightV (2, e0, n) = true := by simp [rightV, e0]
theorem right3 {n : Int} (h : plainV n = n) : rightV (3, e0, n) = true := by simp [rightV, e0, h]
theorem right4 : rightV (4, e0, 0) = true := by simp [rightV, e0]
theorem right5 {n : Int} (h : 0 ≤ n ∧ n ≤ 999) : rightV (5, e0, n) = true := by simp [rightV, e0, h]
theorem wput1 {s : ByteArray} (h : nameV s.data.toList = true) : wput (1, s, 0) = s.data.toList := by unfold wput; rw [if_pos (right1 h)]; rfl
theorem wput2 (n : Int) : wput (2, e0, n) = dec n := by unfold wput; rw [if_pos (right2 n)]; rfl
theorem wput3 {n : Int} (h : plainV n = n) : wput (3, e0, n) = putV n := by unfold wput; rw [if_pos (right3 h)]; rfl
theorem wput4 : wput (4, e0, 0) = nullL := by unfold wput; rw [if_pos right4]; rfl
theorem wput5 {n : Int} (h : 0 ≤ n ∧ n ≤ 999) : wput (5, e0, n) = 35 :: dec n := by unfold wput; rw [if_pos (right5 h)]; rfl

theorem wread_name {s : ByteArray} (h : nameV s.data.toList = true) : wread s = ((1, s, 0), true) := by
  obtain ⟨c, t, he, hc, hn, _⟩ := name_parts h
  unfold wread
  rw [he] at hn ⊢
  have hv := let_val hc
  have n1 : c ≠ 35 := ne_of_toNat (by show c.toNat ≠ 35; omega)
  have n2 : c ≠ 45 := ne_of_toNat (by show c.toNat ≠ 45; omega)
  have n3 : c ≠ 48 := ne_of_toNat (by show c.toNat ≠ 48; omega)
  simp only
  rw [if_neg n1, if_neg (by intro h; rcases h with h | h; exact n2 h; omega), if_neg n3, if_neg hn]
theorem wread_int {s : ByteArray} {n : Int} (hi : In n) (h : s.data.toList = dec n) : wread s = ((2, e0, n), true) := by
  unfold wread
  rw [h]
  rcases dec_first n with ⟨rfl, h0⟩ | ⟨c, t, h0, hc⟩
  · rw [h0]; rfl
  · have hg := get_dec n hi
    rw [h0] at hg ⊢
    simp only
    have n1 : c ≠ 35 := by
      rcases hc with rfl | hc
      · decide
      · exact ne_of_toNat (by show c.toNat ≠ 35; omega)
    rw [if_neg n1, if_pos hc, hg]
theorem wread_float {s : ByteArray} {n : Int} (hi : In n) (hp : plainV n = n) (h : s.data.toList = putV n) : wread s = ((3, e0, n), true) := by
  unfold wread
  rw [h]
  have hg := get_put n hi
  rw [hp] at hg
  obtain ⟨t, ht⟩ := putV_first n
  rw [ht] at hg ⊢
  simp only
  rw [if_neg (by decide), if_neg (by decide), if_pos trivial, if_neg (by simp), hg]
theorem wread_null {s : ByteArray} (h : s.data.toList = nullL) : wread s = ((4, e0, 0), true) := by
  unfold wread
  rw [h]; rfl
theorem wread_obj {s : ByteArray} {n : Int} (hi : In n) (h : s.data.toList = 35 :: dec n) : wread s = ((5, e0, n), true) := by
  unfold wread
  rw [h]
  simp only
  rw [if_pos trivial, get_dec n hi]

/-- the word of a right argument is read as it. -/
theorem wget_of {a : A} {s : ByteArray} (hi : In a.2.2) (hr : rightV a = true) (h : s.data.toList = wput a) : wget s = (a, true) := by
  have key : wread s = (a, true) := by
    rcases right_cases hr with ⟨u, rfl, hn⟩ | ⟨n, rfl⟩ | ⟨n, rfl, hp⟩ | rfl | ⟨n, rfl, hn⟩
    · rw [wput1 hn] at h
      obtain rfl := bytes_ext h
      exact wread_name hn
    · exact wread_int hi (by rw [h, wput2])
    · exact wread_float hi hp (by rw [h, wput3 hp])
    · exact wread_null (by rw [h, wput4])
    · exact wread_obj hi (by rw [h, wput5 hn])
  unfold wget
  rw [key, if_pos ⟨rfl, hr⟩]

/-- what is read, if it is right, has this word. -/
theorem wread_back {s : ByteArray} (h : (wread s).2 = true) (hr : rightV (wread s).1 = true) : wput (wread s).1 = s.data.toList ∧ In (wread s).1.2.2 := by
  unfold wread at h hr ⊢
  generalize hl : s.data.toList = l at h hr ⊢
  match l with
  | [] => simp at h
  | c :: t =>
    simp only at h hr ⊢
    by_cases h1 : c = 35
    · rw [if_pos h1] at h hr ⊢
      obtain ⟨b1, b2⟩ := get_back t h
      have hn : 0 ≤ (getV t).1 ∧ (getV t).1 ≤ 999 := by
        simp [rightV, e0] at hr
        exact hr
      exact ⟨by rw [wput5 hn, b2, h1], b1⟩
    · rw [if_neg h1] at h hr ⊢
      by_cases h2 : c = 45 ∨ (49 ≤ c.toNat ∧ c.toNat ≤ 57)
      · rw [if_pos h2] at h hr ⊢
        obtain ⟨b1, b2⟩ := get_back (c :: t) h
        exact ⟨by rw [wput2, b2], b1⟩
      · rw [if_neg h2] at h hr ⊢
        by_cases h3 : c = 48
        · rw [if_pos h3] at h hr ⊢
          by_cases h4 : c :: t = [48]
          · rw [if_pos h4]
            exact ⟨by rw [wput2, dec_zero, h4], by show In 0; unfold In; omega⟩
          · rw [if_neg h4] at h hr ⊢
            have hp : plainV (fgetV (c :: t)).1 = (fgetV (c :: t)).1 := by
              simp [rightV, e0] at hr
              exact hr
            have hin : In (fgetV (c :: t)).1 := by
              unfold fgetV
              split
              · split
                · exact in_frd _
                · show In 0; unfold In; omega
              · show In 0; unfold In; omega
            exact ⟨by rw [wput3 hp, FloM.get_back h], hin⟩
        · rw [if_neg h3] at h hr ⊢
          by_cases h4 : c :: t = nullL
          · rw [if_pos h4]
            exact ⟨by rw [wput4, h4], by show In 0; unfold In; omega⟩
          · rw [if_neg h4] at hr ⊢
            have hn : nameV s.data.toList = true := by
              simp [rightV] at hr
              exact hr
            exact ⟨by rw [wput1 hn, hl], by show In 0; unfold In; omega⟩

theorem wget_back {s : ByteArray} (h : (wget s).2 = true) : rightV (wget s).1 = true ∧ wput (wget s).1 = s.data.toList ∧ In (wget s).1.2.2 := by
  unfold wget at h ⊢
  split at h
  · rename_i hc
    rw [if_pos hc]
    exact ⟨hc.2, wread_back hc.1 hc.2⟩
  · simp at h
theorem wget_none {s : ByteArray} (h : (wget s).2 = false) : (wget s).1 = zero := by
  unfold wget at h ⊢
  split at h
  · simp at h
  · rename_i hc
    rw [if_neg hc]

/-- the argument of each kind that a text could be. -/
def cand (s : ByteArray) : Nat → A
  | 0 => (1, s, 0)
  | 1 => (2, e0, (getV s.data.toList).1)
  | 2 => (3, e0, (fgetV s.data.toList).1)
  | 3 => (4, e0, 0)
  | _ => (5, e0, (getV s.data.toList.tail).1)
def candOk (s : ByteArray) (i : Nat) : Bool := rightV (cand s i) && (wput (cand s i) == s.data.toList)
theorem in_getV (l : List UInt8) : In (getV l).1 := by
  unfold getV
  split
  · show In 0; unfold In; omega
  · split
    · exact in_readV _
    · show In 0; unfold In; omega
theorem in_fgetV (l : List UInt8) : In (fgetV l).1 := by
  unfold fgetV
  split
  · split
    · exact in_frd _
    · show In 0; unfold In; omega
  · show In 0; unfold In; omega
theorem in_cand (s : ByteArray) (i : Nat) : In (cand s i).2.2 := by
  unfold cand
  split
  · show In 0; unfold In; omega
  · exact in_getV _
  · exact in_fgetV _
  · show In 0; unfold In; omega
  · exact in_getV _
theorem wget_cand {s : ByteArray} {i : Nat} (h : candOk s i = true) : wget s = (cand s i, true) := by
  unfold candOk at h
  simp only [Bool.and_eq_true, beq_iff_eq] at h
  exact wget_of (in_cand s i) h.1 h.2.symm
theorem wget_no_cand {s : ByteArray} (h : ∀ i, i < 5 → candOk s i = false) : wget s = (zero, false) := by
  by_cases hg : (wget s).2 = true
  · exfalso
    obtain ⟨hr, hp, hi⟩ := wget_back hg
    have key : ∃ i, i < 5 ∧ cand s i = (wget s).1 := by
      rcases right_cases hr with ⟨u, ha, hn⟩ | ⟨n, ha⟩ | ⟨n, ha, hpl⟩ | ha | ⟨n, ha, hn⟩
      · rw [ha, wput1 hn] at hp
        exact ⟨0, by omega, by rw [ha, bytes_ext hp]; rfl⟩
      · rw [ha] at hi hp ⊢
        rw [wput2] at hp
        refine ⟨1, by omega, ?_⟩
        unfold cand
        rw [← hp, get_dec n hi]
        rfl
      · rw [ha] at hi hp ⊢
        rw [wput3 hpl] at hp
        refine ⟨2, by omega, ?_⟩
        unfold cand
        rw [← hp, get_put n hi, hpl]
        rfl
      · exact ⟨3, by omega, by rw [ha]; rfl⟩
      · rw [ha] at hi hp ⊢
        rw [wput5 hn] at hp
        refine ⟨4, by omega, ?_⟩
        unfold cand
        rw [← hp]
        show (5, e0, (getV (dec n)).1) = _
        rw [get_dec n hi]
    obtain ⟨i, hi5, hc⟩ := key
    have := h i hi5
    unfold candOk at this
    rw [hc, hr, hp] at this
    simp at this
  · have h2 : (wget s).2 = false := by simpa using hg
    have h3 := wget_none h2
    exact Prod.ext h3 h2

/-- unlike right arguments have unlike words. -/
theorem wput_inj {a b : A} (ha : In a.2.2) (hb : In b.2.2) (ra : rightV a = true) (rb : rightV b = true) (h : wput a = wput b) : a = b := by
  have h1 : wget ⟨(wput a).toArray⟩ = (a, true) := wget_of ha ra rfl
  have h2 : wget ⟨(wput a).toArray⟩ = (b, true) := wget_of hb rb h
  rw [h1] at h2
  exact congrArg Prod.fst h2

theorem wput_len {a : A} (ra : rightV a = true) (ha : In a.2.2) : (wput a).length ≤ 22 := by
  rcases right_cases ra with ⟨u, rfl, hn⟩ | ⟨n, rfl⟩ | ⟨n, rfl, hpl⟩ | rfl | ⟨n, rfl, hn⟩
  · rw [wput1 hn]
    obtain ⟨c, t, _, _, _, hl⟩ := name_parts hn
    omega
  · rw [wput2]; have := (read_dec n ha).2.2; omega
  · rw [wput3 hpl, put_len]; omega
  · rw [wput4]; decide
  · rw [wput5 hn]; have := (read_dec n ha).2.2; simp; omega
end Go.Proofs.Ytfihnnfjkhcgkaa.WordM
