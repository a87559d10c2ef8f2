/-
  Layer 10, plainly: what a going through the order keeps, why goings through end, and what holds when nothing changed.
-/
import Derived.Test.YtiohngbmddfgfaaDomI
namespace Go.Proofs.Ytiohngbmddfgfaa.Dm10
open Fl9

/-- where a point stands in the order. -/
def pos (g : List (List Int)) (q : Nat) : Nat := (orderV g).idxOf (q : Int)
theorem ord_ok {g : List (List Int)} (h : g.length ≠ 0) : OrderOk g (orderV g) (comeV g) := by
  have := start_ok h
  rwa [← order_start, ← come_start] at this
theorem ord_mem {g : List (List Int)} {q : Nat} : (q : Int) ∈ orderV g ↔ Come g q := by
  by_cases h : g.length = 0
  · obtain rfl := List.eq_nil_of_length_eq_zero h
    refine ⟨fun h => by simp [orderV] at h, fun h => ?_⟩
    have := h.last.1
    simp at this
  · rw [(ord_ok h).mem, come_iff]
theorem ord_len {g : List (List Int)} (h : 0 < g.length) : 0 < (orderV g).length := by
  have := (ord_ok (by omega : g.length ≠ 0)).first h
  exact (List.getElem?_eq_some_iff.1 this).1
theorem ord_point {g : List (List Int)} {x : Int} (h : x ∈ orderV g) : ∃ q : Nat, x = (q : Int) ∧ q < g.length ∧ Come g q := by
  by_cases h0 : g.length = 0
  · obtain rfl := List.eq_nil_of_length_eq_zero h0
    simp [orderV] at h
  · obtain ⟨q, e, hq⟩ := (ord_ok h0).point x h
    subst e
    exact ⟨q, rfl, hq, ord_mem.1 h⟩
theorem pos_at {g : List (List Int)} {q : Nat} (h : Come g q) : (orderV g)[pos g q]? = some (q : Int) := by
  have hm := ord_mem.2 h
  have hl : (orderV g).idxOf (q : Int) < (orderV g).length := List.idxOf_lt_length_of_mem hm
  unfold pos
  rw [List.getElem?_eq_getElem hl, List.getElem_idxOf]
theorem pos_lt {g : List (List Int)} {q : Nat} (h : Come g q) : pos g q < (orderV g).length := (List.getElem?_eq_some_iff.1 (pos_at h)).1
theorem pos_of {g : List (List Int)} {i q : Nat} (h : (orderV g)[i]? = some (q : Int)) : pos g q = i := by
  have hc : Come g q := ord_mem.1 (List.mem_of_getElem? h)
  have h0 : g.length ≠ 0 := by have := hc.last.1; omega
  exact nodup_at (ord_ok h0).nd (pos_at hc) h
theorem pos_inj {g : List (List Int)} {p q : Nat} (h : Come g p) (k : Come g q) (e : pos g p = pos g q) : p = q := by
  have h1 := pos_at h
  rw [e, pos_at k] at h1
  simp only [Option.some.injEq] at h1
  omega
theorem come_zero {g : List (List Int)} {q : Nat} (h : Come g q) : Come g 0 := .refl h.start.1 trivial
theorem pos_zero {g : List (List Int)} (h : 0 < g.length) : pos g 0 = 0 := pos_of (by have := (ord_ok (by omega : g.length ≠ 0)).first h; exact this)
theorem pos_pos {g : List (List Int)} {q : Nat} (h : Come g q) (hq : q ≠ 0) : 0 < pos g q := by
  refine Nat.pos_of_ne_zero fun e => hq (pos_inj h (come_zero h) ?_)
  rw [e, pos_zero h.start.1]
/-- each point but the first has one ahead of it that leads to it. -/
theorem pos_fwd {g : List (List Int)} {k : Nat} (h : Come g k) (hk : k ≠ 0) : ∃ p, Come g p ∧ pos g p < pos g k ∧ (k : Int) ∈ g.getD p [] := by
  have h0 : g.length ≠ 0 := by have := h.last.1; omega
  rcases (ord_ok h0).back _ _ (pos_at h) with ⟨_, e⟩ | ⟨j, y, h1, h2, h3⟩
  · omega
  · obtain ⟨p, rfl, _, hp⟩ := ord_point (List.mem_of_getElem? h2)
    rw [Int.toNat_natCast] at h3
    exact ⟨p, hp, by rw [pos_of h2]; exact h1, h3⟩
/-- is it known where the way up from p goes? -/
def Kn (near : List Int) (p : Nat) : Prop := p = 0 ∨ ∃ c : Nat, near[p]? = some (c : Int)
/-- a point above all of S, and below whatever is above all of S. -/
def Top (near : List Int) (S : Nat → Prop) (r : Nat) : Prop := (∀ p, S p → Anc near r p) ∧ ∀ a, (∀ p, S p → Anc near a p) → Anc near a r
/-- the known ones that lead to k. -/
def Led (g : List (List Int)) (near : List Int) (k p : Nat) : Prop := (k : Int) ∈ g.getD p [] ∧ Come g p ∧ Kn near p
/-- what is known behind i points of a going through. -/
structure St (g : List (List Int)) (near : List Int) (i N : Nat) : Prop where
  len : near.length = g.length
  iN : i ≤ N
  oneN : 1 ≤ N
  val : ∀ (k : Nat) (x : Int), near[k]? = some x → x = -1 ∨ ∃ c : Nat, x = (c : Int) ∧ k ≠ 0 ∧ Come g k ∧ Come g c ∧ Kn near c
  kn : ∀ k : Nat, k ≠ 0 → Come g k → ((∃ c : Nat, near[k]? = some (c : Int)) ↔ pos g k < N)
  ups : Ups g (pos g) near
  sound : Sound g near
  post : ∀ k c : Nat, near[k]? = some (c : Int) → ∀ a, (∀ p, Led g near k p → Anc near a p) → Anc near a c
  fwd : ∀ k c : Nat, near[k]? = some (c : Int) → (pos g k < i ∨ i ≤ pos g c) → ∀ p, (k : Int) ∈ g.getD p [] → Come g p → pos g p < pos g k → Anc near c p
/-- in a going through that has changed nothing: who was gone by has what all that lead to it ask for. -/
def Still9 (g : List (List Int)) (near : List Int) (i : Nat) : Prop := ∀ k c : Nat, near[k]? = some (c : Int) → pos g k < i → ∀ p, Led g near k p → Anc near c p
theorem St.at9 {g : List (List Int)} {near : List Int} {i N : Nat} (h : St g near i N) {k c : Nat} (e : near[k]? = some (c : Int)) : k ≠ 0 ∧ Come g k ∧ Come g c ∧ Kn near c := by
  rcases h.val k _ e with h1 | ⟨c2, h1, h2⟩
  · omega
  · obtain rfl : c = c2 := by omega
    exact h2
theorem St.come {g : List (List Int)} {near : List Int} {i N : Nat} (h : St g near i N) {p q : Nat} (hq : Come g q) (k : Kn near p) : Come g p := by
  rcases k with rfl | ⟨c, e⟩
  · exact come_zero hq
  · exact (h.at9 e).2.1
theorem St.known {g : List (List Int)} {near : List Int} {i N : Nat} (h : St g near i N) {p : Nat} (hp : Come g p) (hl : pos g p < N) : Kn near p := by
  by_cases e : p = 0
  · exact .inl e
  · exact .inr ((h.kn p e hp).2 hl)
theorem St.place {g : List (List Int)} {near : List Int} {i N : Nat} (h : St g near i N) {p : Nat} (hp : Come g p) (hk : Kn near p) : pos g p < N := by
  by_cases e : p = 0
  · subst e; rw [pos_zero hp.start.1]; exact h.oneN
  · exact (h.kn p e hp).1 (hk.resolve_left e)
theorem anc_dir {near : List Int} {a b p : Nat} (ha : Anc near a p) (hb : Anc near b p) : Anc near a b ∨ Anc near b a := by
  induction ha with
  | refl => exact .inr hb
  | up e h9 ih =>
    cases hb with
    | refl => exact .inl (.up e h9)
    | up e2 h2 =>
      rw [e] at e2
      simp only [Option.some.injEq] at e2
      rename_i b c c2
      obtain rfl : c = c2 := by omega
      exact ih h2
theorem St.strict {g : List (List Int)} {near : List Int} {i N : Nat} (h : St g near i N) {a b : Nat} (ha : Anc near a b) (hne : a ≠ b) : pos g a < pos g b := by
  cases ha with
  | refl => exact absurd rfl hne
  | up e h2 =>
    have h1 := h.ups.le h2
    have h3 := h.ups.lt b _ (h.at9 e).1 e
    omega
theorem St.anti {g : List (List Int)} {near : List Int} {i N : Nat} (h : St g near i N) {a b : Nat} (ha : Anc near a b) (hb : Anc near b a) : a = b := by
  refine Classical.byContradiction fun hne => ?_
  have h1 := h.strict ha hne
  have h2 := h.strict hb (fun e => hne e.symm)
  omega
/-- at the start nothing is known but the point 0. -/
theorem st_start {g : List (List Int)} : St g (List.replicate g.length (-1)) 0 1 := by
  have hn : ∀ (k c : Nat), (List.replicate g.length (-1 : Int))[k]? ≠ some (c : Int) := by
    intro k c e
    rw [List.getElem?_replicate] at e
    split at e
    · simp only [Option.some.injEq] at e; omega
    · cases e
  refine ⟨by simp, Nat.zero_le _, Nat.le_refl _, fun k x e => ?_, fun k hk hc => ⟨fun ⟨c, e⟩ => absurd e (hn k c), fun h => ?_⟩, ⟨fun b c _ e => absurd e (hn b c), fun b c _ e => absurd e (hn b c), fun c e => absurd e (hn 0 c)⟩, fun a b hd hb => ?_, fun k c e => absurd e (hn k c), fun k c e => absurd e (hn k c)⟩
  · left
    rw [List.getElem?_replicate] at e
    split at e
    · simp only [Option.some.injEq] at e; omega
    · cases e
  · have := pos_pos hc hk; omega
  · rcases hb with rfl | ⟨c, e⟩
    · rw [dom_zero hd]; exact .refl
    · exact absurd e (hn b c)
/-- a new going through. -/
theorem St.again {g : List (List Int)} {near : List Int} {N : Nat} (h : St g near (orderV g).length N) : St g near 0 N :=
  ⟨h.len, Nat.zero_le _, h.oneN, h.val, h.kn, h.ups, h.sound, h.post, fun k c e _ p h1 h2 h3 => h.fwd k c e (.inl (pos_lt (h.at9 e).2.1)) p h1 h2 h3⟩
/-- the point 0 is left as it is. -/
theorem St.zero {g : List (List Int)} {near : List Int} {N : Nat} (h : St g near 0 N) : St g near 1 N := by
  refine ⟨h.len, h.oneN, h.oneN, h.val, h.kn, h.ups, h.sound, h.post, fun k c e hc p h1 h2 h3 => h.fwd k c e ?_ p h1 h2 h3⟩
  rcases hc with hc | hc
  · have := pos_pos (h.at9 e).2.1 (h.at9 e).1; omega
  · exact .inr (Nat.zero_le _)
theorem still_zero {g : List (List Int)} {near : List Int} {N : Nat} (h : St g near 0 N) : Still9 g near 1 := by
  intro k c e hl
  have := pos_pos (h.at9 e).2.1 (h.at9 e).1; omega
/-- the point that is gone by stays as it is. -/
theorem St.same {g : List (List Int)} {near : List Int} {N x r : Nat} (h : St g near (pos g x) N) (hx : Come g x) (hx0 : x ≠ 0) (ht : Top near (Led g near x) r) (e : near[x]? = some (r : Int)) : St g near (pos g x + 1) N := by
  have hl := h.place hx (.inr ⟨r, e⟩)
  refine ⟨h.len, by omega, h.oneN, h.val, h.kn, h.ups, h.sound, h.post, fun k c e2 hc p h1 h2 h3 => ?_⟩
  by_cases hk : k = x
  · subst hk
    rw [e] at e2
    simp only [Option.some.injEq] at e2
    obtain rfl : r = c := by omega
    exact ht.1 p ⟨h1, h2, h.known h2 (by omega)⟩
  · refine h.fwd k c e2 ?_ p h1 h2 h3
    have hne : pos g k ≠ pos g x := fun e3 => hk (pos_inj (h.at9 e2).2.1 hx e3)
    omega
theorem Still9.same {g : List (List Int)} {near : List Int} {N x r : Nat} (h : St g near (pos g x) N) (hs : Still9 g near (pos g x)) (hx : Come g x) (ht : Top near (Led g near x) r) (e : near[x]? = some (r : Int)) : Still9 g near (pos g x + 1) := by
  intro k c e2 hl p hp
  by_cases hk : k = x
  · subst hk
    rw [e] at e2
    simp only [Option.some.injEq] at e2
    obtain rfl : r = c := by omega
    exact ht.1 p hp
  · have hne : pos g k ≠ pos g x := fun e3 => hk (pos_inj (h.at9 e2).2.1 hx e3)
    exact hs k c e2 (by omega) p hp
/-- there is one ahead of x that leads to it and is known: so what stands above all of these stands ahead of x. -/
theorem St.led {g : List (List Int)} {near : List Int} {N x : Nat} (h : St g near (pos g x) N) (hx : Come g x) (hx0 : x ≠ 0) : ∃ p, Led g near x p ∧ pos g p < pos g x := by
  obtain ⟨p, h1, h2, h3⟩ := pos_fwd hx hx0
  have := h.iN
  exact ⟨p, ⟨h3, h1, h.known h1 (by omega)⟩, h2⟩
theorem chain_way {g : List (List Int)} {near : List Int} (h : Ups g (pos g) near) (hz : ∀ c : Nat, near[0]? ≠ some (c : Int)) {m q : Nat} (ha : Anc near m q) {a : Nat} (hlt : pos g a < pos g m) (hw : Way g (fun p => p ≠ a) 0 m) : Way g (fun p => p ≠ a) 0 q := by
  induction ha with
  | refl => exact hw
  | up e h9 ih =>
    rename_i b c
    have hb : b ≠ 0 := fun e2 => by subst e2; exact hz c e
    have := h.le h9
    exact h.way b c hb e a (by omega) ih
/-- the point that is gone by gets another one. -/
theorem St.put {g : List (List Int)} {near : List Int} {N x r : Nat} (h : St g near (pos g x) N) (hx : Come g x) (hx0 : x ≠ 0) (ht : Top near (Led g near x) r) (hr : Kn near r) : St g (near.set x (r : Int)) (pos g x + 1) (max N (pos g x + 1)) := by
  have hrc : Come g r := h.come hx hr
  obtain ⟨p1, hp1, hp1l⟩ := h.led hx hx0
  have hrp := ht.1 p1 hp1
  have hrl : pos g r < pos g x := by have := h.ups.le hrp; omega
  have hxl : x < near.length := by rw [h.len]; exact hx.last.1
  have hz : ∀ c : Nat, near[0]? ≠ some (c : Int) := fun c e => (h.at9 e).1 rfl
  have hstep := step_ok (m := r) h.ups h.sound hx0 hxl (fun b c e => ⟨(h.at9 e).2.2.1, (h.at9 e).2.2.2⟩) hrc hr hrl
    (fun a ha hw => .step (chain_way h.ups hz hrp ha hw) hp1.1 hx.last.1 (fun e => by subst e; omega))
    (fun a hd hne => ht.2 a fun p hp => h.sound a p (hd.pred hp.2.1 hp.1 hne) hp.2.2)
  obtain ⟨near', hn⟩ : ∃ n, near.set x (r : Int) = n := ⟨_, rfl⟩
  have hself : near'[x]? = some (r : Int) := by rw [← hn, List.getElem?_set_self hxl]
  have hoth : ∀ b, b ≠ x → near'[b]? = near[b]? := fun b hb => by rw [← hn, List.getElem?_set_ne (fun e => hb e.symm)]
  rw [hn] at hstep ⊢
  obtain ⟨hu', hs'⟩ := hstep
  have hKn : ∀ p, Kn near p → Kn near' p := by
    rintro p (e | ⟨c, e⟩)
    · exact .inl e
    · by_cases hb : p = x
      · subst hb; exact .inr ⟨r, hself⟩
      · exact .inr ⟨c, by rw [hoth p hb]; exact e⟩
  have hKn' : ∀ p, Kn near' p → p = x ∨ Kn near p := by
    rintro p (e | ⟨c, e⟩)
    · exact .inr (.inl e)
    · by_cases hb : p = x
      · exact .inl hb
      · rw [hoth p hb] at e
        exact .inr (.inr ⟨c, e⟩)
  -- what isn't changed of a way up
  have keep : ∀ {a b : Nat}, Anc near a b → ¬ (pos g a < pos g x ∧ pos g x ≤ pos g b) → Anc near' a b := by
    intro a b ha
    induction ha with
    | refl => intro _; exact .refl
    | up e h9 ih =>
      rename_i b c
      intro hno
      have h1 := h.ups.lt b c (h.at9 e).1 e
      have h2 := h.ups.le h9
      have hbx : b ≠ x := fun e2 => by subst e2; exact hno ⟨by omega, Nat.le_refl _⟩
      exact .up (by rw [hoth b hbx]; exact e) (ih fun h5 => hno ⟨h5.1, by omega⟩)
  -- ways up are no longer than they were, but for who had none
  have shrink : ∀ {a b : Nat}, Anc near' a b → (∃ c : Nat, near[x]? = some (c : Int)) ∨ b ≠ x → Anc near a b := by
    intro a b ha
    induction ha with
    | refl => intro _; exact .refl
    | up e h9 ih =>
      rename_i b c
      intro hor
      by_cases hb : b = x
      · subst hb
        rw [hself] at e
        simp only [Option.some.injEq] at e
        obtain rfl : r = c := by omega
        obtain ⟨d, hd⟩ := hor.resolve_right (fun h => h rfl)
        have h1 := ih (.inl ⟨d, hd⟩)
        exact .up hd (h.post b d hd a fun p hp => h1.trans (ht.1 p hp))
      · rw [hoth b hb] at e
        refine .up e (ih ?_)
        by_cases hc : c = x
        · subst hc
          exact .inl ((h.at9 e).2.2.2.resolve_left hx0)
        · exact .inr hc
  have hsub : ∀ {k a : Nat}, (∀ p, Led g near' k p → Anc near' a p) → ∀ p, Led g near k p → Anc near a p := by
    intro k a hall p hp
    refine shrink (hall p ⟨hp.1, hp.2.1, hKn p hp.2.2⟩) ?_
    by_cases e : p = x
    · subst e
      exact .inl (hp.2.2.resolve_left hx0)
    · exact .inr e
  have hiN := h.iN
  refine ⟨by rw [← hn]; simpa using h.len, by omega, by omega, fun k y e => ?_, fun k hk hc => ?_, hu', hs', fun k c e a hall => ?_, fun k c e hcond p h1 h2 h3 => ?_⟩
  · by_cases hk : k = x
    · subst hk
      rw [hself] at e
      simp only [Option.some.injEq] at e
      exact .inr ⟨r, e.symm, hx0, hx, hrc, hKn r hr⟩
    · rw [hoth k hk] at e
      rcases h.val k y e with h1 | ⟨c, h1, h2, h3, h4, h5⟩
      · exact .inl h1
      · exact .inr ⟨c, h1, h2, h3, h4, hKn c h5⟩
  · by_cases hkx : k = x
    · subst hkx
      exact ⟨fun _ => by omega, fun _ => ⟨r, hself⟩⟩
    · rw [hoth k hkx, h.kn k hk hc]
      have hne : pos g k ≠ pos g x := fun e3 => hkx (pos_inj hc hx e3)
      omega
  · by_cases hk : k = x
    · subst hk
      rw [hself] at e
      simp only [Option.some.injEq] at e
      obtain rfl : r = c := by omega
      exact keep (ht.2 a (hsub hall)) (by omega)
    · rw [hoth k hk] at e
      have had := h.post k c e a (hsub hall)
      by_cases hcx : pos g c < pos g x
      · exact keep had (by omega)
      · have hka := h.at9 e
        have hxk : ∃ c : Nat, near[x]? = some (c : Int) := (h.kn x hx0 hx).2 (by have := h.place hka.2.2.1 hka.2.2.2; omega)
        obtain ⟨p2, hp2, hp2l, hp2e⟩ := pos_fwd hka.2.1 hka.1
        have hp2k : Kn near p2 := h.known hp2 (by have := h.place hka.2.1 (.inr ⟨c, e⟩); omega)
        have h5 := h.fwd k c e (.inr (by omega)) p2 hp2e hp2 hp2l
        have h6 : Anc near' c p2 := keep h5 (by omega)
        have h7 := hall p2 ⟨hp2e, hp2, hKn p2 hp2k⟩
        rcases anc_dir h7 h6 with h8 | h8
        · exact h8
        · have := h.anti had (shrink h8 (.inl hxk))
          subst this
          exact .refl
  · by_cases hk : k = x
    · subst hk
      rw [hself] at e
      simp only [Option.some.injEq] at e
      obtain rfl : r = c := by omega
      exact keep (ht.1 p ⟨h1, h2, h.known h2 (by omega)⟩) (by omega)
    · rw [hoth k hk] at e
      have hne : pos g k ≠ pos g x := fun e3 => hk (pos_inj (h.at9 e).2.1 hx e3)
      rcases hcond with hcond | hcond
      · exact keep (h.fwd k c e (.inl (by omega)) p h1 h2 h3) (by omega)
      · exact keep (h.fwd k c e (.inr (by omega)) p h1 h2 h3) (by omega)
/-- how much may still change. -/
def wt (g : List (List Int)) (x : Int) : Nat := if x < 0 then g.length else pos g x.toNat
def mass (g : List (List Int)) (near : List Int) : Nat := (near.map (wt g)).sum
theorem sum_set : ∀ {l : List Nat} {i a b : Nat}, l[i]? = some a → (l.set i b).sum + a = l.sum + b
  | [], _, _, _, h => by simp at h
  | x :: l, 0, a, b, h => by
    simp only [List.getElem?_cons_zero, Option.some.injEq] at h
    subst h
    simp only [List.set_cons_zero, List.sum_cons]
    omega
  | x :: l, i + 1, a, b, h => by
    have := sum_set (l := l) (i := i) (a := a) (b := b) (by simpa using h)
    simp only [List.set_cons_succ, List.sum_cons]
    omega
theorem mass_start (g : List (List Int)) : mass g (List.replicate g.length (-1)) = g.length * g.length := by
  unfold mass
  rw [List.map_replicate, List.sum_replicate_nat]
  rfl
theorem mass_put {g : List (List Int)} {near : List Int} {N x r : Nat} (h : St g near (pos g x) N) (hx : Come g x) (hx0 : x ≠ 0) (ht : Top near (Led g near x) r) (_ : Kn near r) (hne : near[x]? ≠ some (r : Int)) : mass g (near.set x (r : Int)) < mass g near := by
  obtain ⟨p1, hp1, hp1l⟩ := h.led hx hx0
  have hrl : pos g r < pos g x := by have := h.ups.le (ht.1 p1 hp1); omega
  have hxl : x < near.length := by rw [h.len]; exact hx.last.1
  obtain ⟨y, hy⟩ : ∃ y, near[x]? = some y := ⟨_, List.getElem?_eq_getElem hxl⟩
  have e := sum_set (l := near.map (wt g)) (i := x) (a := wt g y) (b := wt g (r : Int)) (by rw [List.getElem?_map, hy]; rfl)
  have hlt : wt g (r : Int) < wt g y := by
    have e1 : wt g (r : Int) = pos g r := by unfold wt; rw [if_neg (by omega), Int.toNat_natCast]
    rw [e1]
    rcases h.val x y hy with rfl | ⟨c, rfl, _⟩
    · have := pos_lt hx
      have := order_len g
      unfold wt
      rw [if_pos (by omega)]
      omega
    · have e2 : wt g (c : Int) = pos g c := by unfold wt; rw [if_neg (by omega), Int.toNat_natCast]
      rw [e2]
      refine h.strict (h.post x c hy r ht.1) fun e3 => hne ?_
      rw [hy, e3]
  unfold mass
  rw [List.map_set]
  omega
/-- behind a going through that has changed nothing. -/
theorem St.fix {g : List (List Int)} {near : List Int} {N : Nat} (h : St g near (orderV g).length N) (hs : Still9 g near (orderV g).length) : Fix g near := by
  have hiN := h.iN
  refine ⟨h.len, fun k hk hc => ?_, fun k hk hc => ?_, fun p k c hp hk hl hkl e => ?_, fun a k c hd hne e => ?_⟩
  · obtain ⟨y, hy⟩ : ∃ y, near[k]? = some y := ⟨_, List.getElem?_eq_getElem (by rw [h.len]; exact hk)⟩
    rcases h.val k y hy with rfl | ⟨c, rfl, h1, h2, _⟩
    · exact hy
    · rcases hc with hc | hc
      · exact absurd hc h1
      · exact absurd h2 hc
  · obtain ⟨c, e⟩ := (h.kn k hk hc).2 (by have := pos_lt hc; omega)
    exact ⟨c, e, fun e2 => by have := h.ups.lt k c hk e; subst e2; omega⟩
  · exact hs k c e (pos_lt (h.at9 e).2.1) p ⟨hl, hp, h.known hp (by have := pos_lt hp; omega)⟩
  · have := h.sound a k hd (.inr ⟨c, e⟩)
    cases this with
    | refl => exact absurd rfl hne
    | up e2 h2 =>
      rw [e] at e2
      simp only [Option.some.injEq] at e2
      rename_i c2
      obtain rfl : c = c2 := by omega
      exact h2
end Go.Proofs.Ytiohngbmddfgfaa.Dm10
