/-
  Layer 8, plain: the two ways of asking whether a phi's Ins are right.
-/
import Derived.Test.YtdmjghhgmpnacaaShLead
namespace Go.Proofs.Ytdmjghhgmpnacaa.Sh8
open Api Go.Maps

theorem sub_len : ∀ {a b : List Wd}, a.Nodup → (∀ x ∈ a, x ∈ b) → a.length ≤ b.length
  | [], b, _, _ => Nat.zero_le _
  | x :: r, b, hn, hs => by
    obtain ⟨h1, h2⟩ := List.nodup_cons.1 hn
    have := sub_len (a := r) (b := b.erase x) h2 (fun y hy => (List.mem_erase_of_ne (fun (e : y = x) => h1 (by rw [← e]; exact hy))).2 (hs y (by simp [hy])))
    rw [List.length_erase_of_mem (hs x (by simp))] at this
    have h3 := List.length_pos_of_mem (hs x (by simp))
    simp only [List.length_cons]
    omega
theorem sub_back {a b : List Wd} (hn : a.Nodup) (hs : ∀ x ∈ a, x ∈ b) (hl : b.length ≤ a.length) : ∀ x ∈ b, x ∈ a := by
  intro x hx
  apply Classical.byContradiction
  intro hna
  have := sub_len (a := x :: a) (b := b) (List.nodup_cons.2 ⟨hna, hn⟩) (fun y hy => by
    rcases List.mem_cons.1 hy with rfl | hy
    · exact hx
    · exact hs y hy)
  simp at this
  omega
theorem led_mem {bl : List Bl} {x y : Wd} : y ∈ led (whole bl) x ↔ ∃ b ∈ bl, b.name = y ∧ x ∈ b.fin.dest := by
  unfold led whole
  constructor
  · intro h
    obtain ⟨d, hd, rfl⟩ := List.mem_map.1 h
    obtain ⟨h1, h2⟩ := List.mem_filter.1 hd
    obtain ⟨b, hb, rfl⟩ := List.mem_map.1 h1
    exact ⟨b, hb, rfl, by simpa using h2⟩
  · rintro ⟨b, hb, rfl, hx⟩
    exact List.mem_map.2 ⟨(b.name, b.fin.dest), List.mem_filter.2 ⟨List.mem_map.2 ⟨b, hb, rfl⟩, by simpa using hx⟩, rfl⟩
theorem led_nodup {bl : List Bl} (h : (names bl).Nodup) (x : Wd) : (led (whole bl) x).Nodup := by
  have h2 : ((whole bl).map (·.1)).Nodup := by
    have : (whole bl).map (·.1) = names bl := by simp [whole, names]
    rw [this]; exact h
  unfold led
  exact List.Nodup.sublist ((List.filter_sublist).map _) h2
/-- The program's test. -/
theorem one_ok {bl : List Bl} (h : (names bl).Nodup) (x : Wd) (ins : List Bind) : OneP (led (whole bl) x) ins ↔ InsOk bl x (ins.map (·.name)) := by
  have hs : size (setD (led (whole bl) x)) = (led (whole bl) x).length := (setD_size _).2 (led_nodup h x)
  unfold OneP InsOk
  rw [hs]
  constructor
  · rintro ⟨h1, h2, h3⟩
    refine ⟨h3, fun y => ⟨fun hy => led_mem.1 (h2 y hy), fun hy => ?_⟩⟩
    exact sub_back h3 h2 (by rw [List.length_map]; omega) y (led_mem.2 hy)
  · rintro ⟨h1, h2⟩
    refine ⟨?_, fun y hy => led_mem.2 ((h2 y).1 hy), h1⟩
    have a1 := sub_len h1 (fun y hy => led_mem.2 ((h2 y).1 hy))
    have a2 := sub_len (led_nodup h x) (fun y hy => (h2 y).2 (led_mem.1 hy))
    rw [List.length_map] at a1 a2
    omega
/-- How often a name stands there. -/
def cntN (x : Wd) : List Wd → Nat
  | [] => 0
  | y :: r => (if y = x then 1 else 0) + cntN x r
theorem cntN_zero {x : Wd} : ∀ {l : List Wd}, cntN x l = 0 ↔ x ∉ l
  | [] => by simp [cntN]
  | y :: r => by
    have := cntN_zero (x := x) (l := r)
    unfold cntN
    by_cases e : y = x
    · simp [e]
    · simp only [if_neg e, Nat.zero_add, this, List.mem_cons, not_or]
      exact ⟨fun h => ⟨fun h2 => e h2.symm, h⟩, fun h => h.2⟩
theorem cntN_snoc (x y : Wd) : ∀ l : List Wd, cntN x (l ++ [y]) = cntN x l + (if y = x then 1 else 0)
  | [] => by simp [cntN]
  | z :: r => by
    simp only [List.cons_append, cntN, cntN_snoc x y r]
    omega
theorem cntN_one {l : List Wd} : l.Nodup ↔ ∀ x, cntN x l ≤ 1 := by
  induction l with
  | nil => simp [cntN]
  | cons y r ih =>
    rw [List.nodup_cons, ih]
    constructor
    · rintro ⟨h1, h2⟩ x
      have := h2 x
      unfold cntN
      by_cases e : y = x
      · subst e
        rw [cntN_zero.2 h1]
        simp
      · simp [e]; exact this
    · intro h
      refine ⟨fun hm => ?_, fun x => ?_⟩
      · have h1 := h y
        unfold cntN at h1
        have h2 : cntN y r ≠ 0 := fun e => cntN_zero.1 e hm
        simp at h1
        omega
      · have := h x
        unfold cntN at this
        omega
def sumN (l : List Wd) : List Wd → Nat
  | [] => 0
  | n :: r => cntN n l + sumN l r
theorem sumN_snoc (l : List Wd) (n : Wd) : ∀ ns : List Wd, sumN l (ns ++ [n]) = sumN l ns + cntN n l
  | [] => by simp [sumN]
  | m :: r => by
    simp only [List.cons_append, sumN, sumN_snoc l n r]
    omega
theorem sumN_cons {y : Wd} {r : List Wd} : ∀ {ns : List Wd}, ns.Nodup → sumN (y :: r) ns = sumN r ns + (if y ∈ ns then 1 else 0)
  | [], _ => by simp [sumN]
  | n :: ns, h => by
    obtain ⟨h1, h2⟩ := List.nodup_cons.1 h
    have := sumN_cons (y := y) (r := r) h2
    simp only [sumN, cntN, this]
    by_cases e : y = n
    · subst e
      simp [h1]
      omega
    · simp [e]
      omega
theorem sumN_le {ns : List Wd} (h : ns.Nodup) : ∀ l : List Wd, sumN l ns ≤ l.length ∧ (sumN l ns = l.length ↔ ∀ x ∈ l, x ∈ ns)
  | [] => by
    have : sumN [] ns = 0 := by
      clear h
      induction ns with
      | nil => rfl
      | cons n r ih => simp [sumN, cntN, ih]
    simp [this]
  | y :: r => by
    obtain ⟨h1, h2⟩ := sumN_le h r
    rw [sumN_cons h]
    simp only [List.length_cons]
    by_cases e : y ∈ ns
    · simp only [e, if_true]
      refine ⟨by omega, ?_⟩
      constructor
      · intro hh x hx
        rcases List.mem_cons.1 hx with rfl | hx
        · exact e
        · exact h2.1 (by omega) x hx
      · intro hh
        have := h2.2 fun x hx => hh x (by simp [hx])
        omega
    · simp only [e, if_false]
      refine ⟨by omega, ⟨fun hh => by omega, fun hh => absurd (hh y (by simp)) e⟩⟩
/-- The document's test: each block's name stands there once if it leads there, and no other name does. -/
theorem ref_ok {bl : List Bl} (h : (names bl).Nodup) (x : Wd) (ins : List Wd) : ((∀ b ∈ bl, cntN b.name ins = if x ∈ b.fin.dest then 1 else 0) ∧ sumN ins (names bl) = ins.length) ↔ InsOk bl x ins := by
  obtain ⟨s1, s2⟩ := sumN_le h ins
  rw [s2]
  unfold InsOk
  constructor
  · rintro ⟨h1, h2⟩
    refine ⟨cntN_one.2 fun y => ?_, fun y => ⟨fun hy => ?_, ?_⟩⟩
    · by_cases hy : y ∈ ins
      · obtain ⟨b, hb, rfl⟩ := List.mem_map.1 (h2 y hy)
        rw [h1 b hb]
        split <;> omega
      · rw [cntN_zero.2 hy]
        omega
    · obtain ⟨b, hb, rfl⟩ := List.mem_map.1 (h2 y hy)
      refine ⟨b, hb, rfl, ?_⟩
      apply Classical.byContradiction
      intro hn
      have := h1 b hb
      rw [if_neg hn] at this
      exact cntN_zero.1 this hy
    · rintro ⟨b, hb, rfl, hx⟩
      have := h1 b hb
      rw [if_pos hx] at this
      apply Classical.byContradiction
      intro hn
      rw [cntN_zero.2 hn] at this
      omega
  · rintro ⟨h1, h2⟩
    refine ⟨fun b hb => ?_, fun y hy => ?_⟩
    · have hle := cntN_one.1 h1 b.name
      by_cases hx : x ∈ b.fin.dest
      · rw [if_pos hx]
        have : cntN b.name ins ≠ 0 := fun e => cntN_zero.1 e ((h2 _).2 ⟨b, hb, rfl, hx⟩)
        omega
      · rw [if_neg hx]
        refine cntN_zero.2 fun hm => ?_
        obtain ⟨c, hc, e, hxc⟩ := (h2 _).1 hm
        obtain ⟨i, hi, e1⟩ := List.mem_iff_getElem.1 hb
        obtain ⟨k, hk, e2⟩ := List.mem_iff_getElem.1 hc
        have q1 : (names bl)[i]? = some b.name := names_at (by rw [List.getElem?_eq_getElem hi, e1])
        have q2 : (names bl)[k]? = some b.name := by rw [← e]; exact names_at (by rw [List.getElem?_eq_getElem hk, e2])
        have := (plc_nodup h q1).symm.trans (plc_nodup h q2)
        cases this
        rw [e1] at e2
        subst e2
        exact hx hxc
    · obtain ⟨b, hb, rfl, _⟩ := (h2 y).1 hy
      exact mem_names hb
end Go.Proofs.Ytdmjghhgmpnacaa.Sh8
