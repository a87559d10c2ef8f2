/-
  Layer 11, plainly: who leads to whom, and how package loops gathers the points of a loop.
-/
import Derived.Test.YtiohngbmddfgfaaLpView
namespace Go.Proofs.Ytiohngbmddfgfaa.Lp11
open Fl9 Dm10

/-- the graph where what can't be come to leads nowhere; and who leads to whom in it. -/
def ledV (g : List (List Int)) : List (List Int) := (List.range g.length).map fun i => if (comeV g).getD i false = true then g.getD i [] else []
theorem led_len (g : List (List Int)) : (ledV g).length = g.length := by simp [ledV]
theorem led_at {g : List (List Int)} {i : Nat} (h : i < g.length) : (ledV g)[i]? = some (if (comeV g).getD i false = true then g.getD i [] else []) := by
  unfold ledV
  rw [List.getElem?_map, List.getElem?_range h]; rfl
theorem led_mem {g : List (List Int)} {i : Nat} {x : Int} : x ∈ (ledV g).getD i [] ↔ Come g i ∧ x ∈ g.getD i [] := by
  by_cases h : i < g.length
  · rw [List.getD_eq_getElem?_getD, led_at h, Option.getD_some]
    by_cases hc : (comeV g).getD i false = true
    · rw [if_pos hc]
      rw [getD_true, come_iff] at hc
      exact ⟨fun k => ⟨hc, k⟩, fun k => k.2⟩
    · rw [if_neg hc]
      rw [getD_true, come_iff] at hc
      exact ⟨fun k => by simp at k, fun k => absurd k.1 hc⟩
  · rw [List.getD_eq_getElem?_getD, List.getElem?_eq_none (by rw [led_len]; omega)]
    exact ⟨fun k => by simp at k, fun k => absurd k.1.last.1 h⟩
def fl (g : List (List Int)) (i : Nat) : List Int := pv (ledV g) g.length i
def fromV (g : List (List Int)) : List (List Int) := predsV (ledV g)
theorem from_len (g : List (List Int)) : (fromV g).length = g.length := by unfold fromV; rw [preds_len, led_len]
theorem from_at {g : List (List Int)} {i : Nat} (h : i < g.length) : (fromV g)[i]? = some (fl g i) := by
  unfold fromV fl
  rw [preds_at (by rw [led_len]; exact h), led_len]
theorem fl_len (g : List (List Int)) (i : Nat) : (fl g i).length ≤ g.length := pv_len _ _ _
theorem fl_mem {g : List (List Int)} {i : Nat} {x : Int} : x ∈ fl g i ↔ ∃ p : Nat, x = (p : Int) ∧ Come g p ∧ (i : Int) ∈ g.getD p [] := by
  constructor
  · intro h
    obtain ⟨p, e, _, h2⟩ := pv_lt h
    rw [led_mem] at h2
    exact ⟨p, e, h2⟩
  · rintro ⟨p, e, h1, h2⟩
    subst e
    exact pv_mem h1.last.1 (led_mem.2 ⟨h1, h2⟩)
/-- does a dominate b, by first and last? -/
def seesB (fi la : List Int) (a : Nat) (b : Int) : Bool := decide (fi.getD a 0 ≤ fi.getD b.toNat 0) && decide (fi.getD b.toNat 0 ≤ la.getD a 0)
theorem sees_iff {g : List (List Int)} {fi la : List Int} (hv : View g fi la) {a b : Nat} (ha : Come g a) (hb : Come g b) : seesB fi la a (b : Int) = true ↔ Dom g a b := by
  unfold seesB
  rw [Int.toNat_natCast, Bool.and_eq_true, decide_eq_true_iff, decide_eq_true_iff]
  exact hv.dom a b ha hb
def casts (l : List Nat) : List Int := l.map fun (p : Nat) => (p : Int)
theorem those_back {g : List (List Int)} {fi la : List Int} (hv : View g fi la) {h : Nat} (hh : h < g.length) : (fl g h).filter (seesB fi la h) = casts (backL g h) := by
  unfold fl pv casts backL
  rw [List.filter_map, List.filter_filter]
  congr 1
  apply List.filter_congr
  intro p _
  rw [Bool.eq_iff_iff, backB_iff, Bool.and_eq_true, decide_eq_true_iff, led_mem]
  unfold Backs
  constructor
  · rintro ⟨h1, h2, h3⟩
    exact ⟨h2, h3, (sees_iff hv (.step h2 h3 hh trivial) h2).1 h1⟩
  · rintro ⟨h1, h2, h3⟩
    exact ⟨(sees_iff hv h3.come h1).2 h3, h1, h2⟩
theorem casts_mem {l : List Nat} {q : Nat} : (q : Int) ∈ casts l ↔ q ∈ l := by
  unfold casts
  rw [List.mem_map]
  exact ⟨fun ⟨p, h, e⟩ => by obtain rfl : p = q := by omega
                             exact h, fun h => ⟨q, h, rfl⟩⟩
theorem casts_len (l : List Nat) : (casts l).length = l.length := by simp [casts]
theorem backL_len (g : List (List Int)) (h : Nat) : (backL g h).length ≤ g.length := by
  have := List.length_filter_le (fun i => backB g h i) (List.range g.length)
  rwa [List.length_range] at this
theorem bodyL_len (g : List (List Int)) (h : Nat) : (bodyL g h).length ≤ g.length := by
  have := List.length_filter_le (fun i => bodyB g h i) (List.range g.length)
  rwa [List.length_range] at this
/-- who is marked as h's. -/
def mkd (h : Nat) (l : List Int) : List Bool := l.map fun x => decide (x = (h : Int))
theorem mk_at {h : Nat} {l : List Int} {q : Nat} : (mkd h l)[q]? = some true ↔ l[q]? = some (h : Int) := by
  unfold mkd
  rw [List.getElem?_map]
  cases l[q]? with
  | none => simp
  | some x => simp
theorem mk_set (h : Nat) (l : List Int) (q : Nat) : mkd h (l.set q (h : Int)) = (mkd h l).set q true := by
  unfold mkd
  rw [List.map_set]
  simp
theorem mk_new {h : Nat} {l : List Int} {q : Nat} (hq : q < l.length) (hn : l[q]? ≠ some (h : Int)) : (mkd h l)[q]? = some false := by
  have := mk_at (h := h) (l := l) (q := q)
  have hl : q < (mkd h l).length := by simp [mkd]; exact hq
  rw [List.getElem?_eq_getElem hl] at this ⊢
  cases hb : (mkd h l)[q] with
  | false => rfl
  | true => rw [hb] at this; exact absurd (this.1 rfl) hn
/-- gathering: B is gathered, R is still to be looked at, of is whose each was last. -/
structure Ga (g : List (List Int)) (h : Nat) (ofs B R : List Int) : Prop where
  ml : ofs.length = g.length
  mem : ∀ q : Nat, (q : Int) ∈ B ↔ ofs[q]? = some (h : Int)
  okB : ∀ x ∈ B, ∃ q : Nat, x = (q : Int) ∧ Body g h q
  okR : ∀ x ∈ R, ∃ q : Nat, x = (q : Int) ∧ Body g h q
  nd : B.Nodup
  hd : (h : Int) ∈ B
  cl : ∀ q : Nat, (q : Int) ∈ B → q ≠ h → ∀ p : Nat, Come g p → (q : Int) ∈ g.getD p [] → (p : Int) ∈ B ∨ (p : Int) ∈ R
  bk : ∀ b : Nat, Backs g h b → (b : Int) ∈ B ∨ (b : Int) ∈ R
  sum : B.length + un (mkd h ofs) = g.length
  sz : R.length + un (mkd h ofs) * g.length ≤ g.length + g.length * g.length
theorem un_all : ∀ {m : List Bool}, (∀ q : Nat, m[q]? ≠ some true) → un m = m.length
  | [], _ => rfl
  | b :: r, h => by
    have h0 := h 0
    have hr := un_all (m := r) fun q => by have := h (q + 1); simpa using this
    cases b with
    | true => exact absurd rfl h0
    | false => unfold un; rw [hr, List.length_cons]; simp; omega
theorem Ga.start {g : List (List Int)} {h : Nat} {ofs : List Int} (hl : ofs.length = g.length) (hn : ∀ q : Nat, ofs[q]? ≠ some (h : Int)) (hh : h < g.length) : Ga g h (ofs.set h (h : Int)) [(h : Int)] (casts (backL g h)) := by
  have hu : un (mkd h ofs) = g.length := by
    rw [un_all fun q hq => hn q (mk_at.1 hq)]
    simp [mkd, hl]
  have hu2 := un_set (mk_new (h := h) (q := h) (by omega) (hn h))
  rw [hu] at hu2
  refine ⟨by simp [hl], fun q => ?_, fun x hx => ?_, fun x hx => ?_, by simp, by simp, fun q hq hne => ?_, fun b hb => .inr (casts_mem.2 (backL_mem.2 hb)), ?_, ?_⟩
  · rw [List.mem_singleton]
    by_cases e : h = q
    · subst e
      rw [List.getElem?_set_self (by omega)]
      simp
    · rw [List.getElem?_set_ne e]
      exact ⟨fun k => absurd (by omega) e, fun k => absurd k (hn q)⟩
  · rw [List.mem_singleton] at hx
    exact ⟨h, hx, .inl rfl⟩
  · obtain ⟨p, hp, rfl⟩ := List.mem_map.1 hx
    exact ⟨p, rfl, back_body (backL_mem.1 hp)⟩
  · rw [List.mem_singleton] at hq
    exact absurd (by omega) hne
  · rw [mk_set, List.length_singleton]; omega
  · rw [mk_set, casts_len]
    have := backL_len g h
    have h3 : un ((mkd h ofs).set h true) ≤ g.length := by omega
    have := Nat.mul_le_mul_right g.length h3
    omega
theorem Ga.pop {g : List (List Int)} {h : Nat} {ofs B R : List Int} {x : Int} (k : Ga g h ofs B (R ++ [x])) {q : Nat} (e : x = (q : Int)) (hm : ofs[q]? = some (h : Int)) : Ga g h ofs B R := by
  subst e
  have hB := (k.mem q).2 hm
  have hor : ∀ p : Nat, (p : Int) ∈ B ∨ (p : Int) ∈ R ++ [(q : Int)] → (p : Int) ∈ B ∨ (p : Int) ∈ R := fun p hp => by
    rcases hp with hp | hp
    · exact .inl hp
    · rcases List.mem_append.1 hp with hp | hp
      · exact .inr hp
      · rw [List.mem_singleton] at hp
        rw [hp]; exact .inl hB
  exact ⟨k.ml, k.mem, k.okB, fun y hy => k.okR y (by simp [hy]), k.nd, k.hd, fun r hr hne p hp hl => hor p (k.cl r hr hne p hp hl), fun b hb => hor b (k.bk b hb), k.sum, by have := k.sz; rw [List.length_append] at this; omega⟩
theorem Ga.take {g : List (List Int)} {h : Nat} {ofs B R : List Int} {x : Int} (hh : Come g h) (k : Ga g h ofs B (R ++ [x])) {q : Nat} (e : x = (q : Int)) (hm : ofs[q]? ≠ some (h : Int)) : q < g.length ∧ Ga g h (ofs.set q (h : Int)) (B ++ [x]) (R ++ fl g q) := by
  subst e
  obtain ⟨q', e, hbq⟩ := k.okR (q : Int) (by simp)
  obtain rfl : q = q' := by omega
  have hnB : (q : Int) ∉ B := fun hb => hm ((k.mem q).1 hb)
  have hqh : q ≠ h := fun e => hnB (by rw [e]; exact k.hd)
  have hql : q < g.length := by
    rcases hbq with e | ⟨_, hc, _⟩
    · exact absurd e hqh
    · exact hc.last.1
  have hu := un_set (mk_new (h := h) (q := q) (by rw [k.ml]; exact hql) hm)
  have hor : ∀ p : Nat, (p : Int) ∈ B ∨ (p : Int) ∈ R ++ [(q : Int)] → (p : Int) ∈ B ++ [(q : Int)] ∨ (p : Int) ∈ R ++ fl g q := fun p hp => by
    rcases hp with hp | hp
    · exact .inl (by simp [hp])
    · rcases List.mem_append.1 hp with hp | hp
      · exact .inr (by simp [hp])
      · exact .inl (List.mem_append_right _ hp)
  have _ := hh
  refine ⟨hql, by simp [k.ml], fun r => ?_, fun y hy => ?_, fun y hy => ?_, ?_, by simp [k.hd], fun r hr hne p hp hl => ?_, fun b hb => hor b (k.bk b hb), ?_, ?_⟩
  · rw [List.mem_append, List.mem_singleton]
    by_cases e2 : q = r
    · subst e2
      rw [List.getElem?_set_self (by rw [k.ml]; exact hql)]
      simp
    · rw [List.getElem?_set_ne e2, ← k.mem r]
      exact ⟨fun h => h.resolve_right (by omega), .inl⟩
  · rcases List.mem_append.1 hy with hy | hy
    · exact k.okB y hy
    · rw [List.mem_singleton] at hy
      exact ⟨q, hy, hbq⟩
  · rcases List.mem_append.1 hy with hy | hy
    · exact k.okR y (by simp [hy])
    · obtain ⟨p, e2, hp, hl⟩ := fl_mem.1 hy
      exact ⟨p, e2, hbq.enter hqh hp hl⟩
  · rw [List.nodup_append]
    refine ⟨k.nd, by simp, fun a ha b hb e2 => ?_⟩
    rw [List.mem_singleton] at hb
    subst e2; subst hb
    exact hnB ha
  · rcases List.mem_append.1 hr with hr | hr
    · exact hor p (k.cl r hr hne p hp hl)
    · rw [List.mem_singleton] at hr
      obtain rfl : r = q := by omega
      exact .inr (List.mem_append_right _ (fl_mem.2 ⟨p, rfl, hp, hl⟩))
  · rw [mk_set, List.length_append, List.length_singleton]
    have := k.sum
    omega
  · rw [mk_set, List.length_append]
    have h1 := k.sz
    have h2 := fl_len g q
    rw [List.length_append, List.length_singleton] at h1
    have h3 : un (mkd h ofs) * g.length = un ((mkd h ofs).set q true) * g.length + g.length := by
      rw [← hu, Nat.add_mul, Nat.one_mul]
    omega
theorem Ga.all {g : List (List Int)} {h : Nat} {ofs B : List Int} (k : Ga g h ofs B []) {q : Nat} : (q : Int) ∈ B ↔ Body g h q := by
  constructor
  · intro hq
    obtain ⟨q', e, hb⟩ := k.okB _ hq
    obtain rfl : q = q' := by omega
    exact hb
  · rintro (e | ⟨hne, hc, b, hb, hw⟩)
    · rw [e]; exact k.hd
    · have hbB : (b : Int) ∈ B := by
        rcases k.bk b hb with h1 | h1
        · exact h1
        · simp at h1
      have back : ∀ r : Nat, Dm10.Way g (fun p => p ≠ h) q r → (r : Int) ∈ B → (q : Int) ∈ B := by
        intro r hr
        induction hr with
        | refl _ _ => exact id
        | step h0 h1 h2 h3 ih =>
          intro hrB
          rcases k.cl _ hrB h3 _ (way_come9 hc h0) h1 with h4 | h4
          · exact ih h4
          · simp at h4
      exact back b hw hbB
/-- two rising rows of the same numbers are one. -/
theorem rising_eq : ∀ {a b : List Int}, a.Pairwise (· < ·) → b.Pairwise (· < ·) → (∀ x, x ∈ a ↔ x ∈ b) → a = b
  | [], [], _, _, _ => rfl
  | [], y :: b, _, _, h => by have := (h y).2 (by simp); simp at this
  | x :: a, [], _, _, h => by have := (h x).1 (by simp); simp at this
  | x :: a, y :: b, ha, hb, h => by
    rw [List.pairwise_cons] at ha hb
    have e : x = y := by
      rcases List.mem_cons.1 ((h x).1 (by simp)) with e | h1
      · exact e
      · rcases List.mem_cons.1 ((h y).2 (by simp)) with e | h2
        · exact e.symm
        · have := hb.1 x h1
          have := ha.1 y h2
          omega
    subst e
    congr 1
    refine rising_eq ha.2 hb.2 fun z => ?_
    constructor
    · intro hz
      have h1 := ha.1 z hz
      rcases List.mem_cons.1 ((h z).1 (by simp [hz])) with e | h2
      · omega
      · exact h2
    · intro hz
      have h1 := hb.1 z hz
      rcases List.mem_cons.1 ((h z).2 (by simp [hz])) with e | h2
      · omega
      · exact h2
theorem casts_rising {f : Nat → Bool} {n : Nat} : (casts ((List.range n).filter f)).Pairwise (· < ·) := by
  unfold casts
  rw [List.pairwise_map]
  refine List.Pairwise.imp ?_ (List.Pairwise.filter _ (List.pairwise_lt_range))
  intro a b h
  omega
theorem sort_body {g : List (List Int)} {h : Nat} {ofs B : List Int} (hh : Come g h) (k : Ga g h ofs B []) : (B.mergeSort fun x y => decide (x ≤ y)) = casts (bodyL g h) := by
  have hp := List.mergeSort_perm B (fun x y => decide (x ≤ y))
  refine rising_eq ?_ casts_rising fun x => ?_
  · have h1 : (B.mergeSort fun x y => decide (x ≤ y)).Pairwise fun a b => decide (a ≤ b) = true := List.pairwise_mergeSort (fun a b c h1 h2 => by simp at *; omega) (fun a b => by simp; omega) B
    have h2 : (B.mergeSort fun x y => decide (x ≤ y)).Nodup := hp.nodup_iff.2 k.nd
    exact (List.Pairwise.and h1 h2).imp fun {a b} ⟨h3, h4⟩ => by
      rw [decide_eq_true_iff] at h3
      omega
  · rw [hp.mem_iff]
    constructor
    · intro hx
      obtain ⟨q, e, hb⟩ := k.okB x hx
      subst e
      exact casts_mem.2 ((bodyL_mem hh).2 hb)
    · intro hx
      obtain ⟨q, hq, rfl⟩ := List.mem_map.1 hx
      exact k.all.2 ((bodyL_mem hh).1 hq)
end Go.Proofs.Ytiohngbmddfgfaa.Lp11
