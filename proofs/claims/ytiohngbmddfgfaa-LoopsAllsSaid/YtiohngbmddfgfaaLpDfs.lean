/-
  Layer 11, plainly: a step against the order leads to one from which one came by steps along it.
-/
import Derived.Test.YtiohngbmddfgfaaDomX
import Derived.Test.YtiohngbmddfgfaaDomJ
namespace Go.Proofs.Ytiohngbmddfgfaa.Lp11
open Fl9 Dm10

/-- from a one comes to it by steps, each to one that was left ahead. -/
inductive Dw (g : List (List Int)) (L : List Int) (a : Nat) : Nat → Prop
  | refl : Dw g L a a
  | step {b c i j : Nat} : Dw g L a b → (c : Int) ∈ g.getD b [] → c < g.length → i < j → L[i]? = some (c : Int) → L[j]? = some (b : Int) → Dw g L a c
theorem Dw.trans {g : List (List Int)} {L : List Int} {a b c : Nat} (h : Dw g L a b) (k : Dw g L b c) : Dw g L a c := by
  induction k with
  | refl => exact h
  | step _ h1 h2 h3 h4 h5 ih => exact .step ih h1 h2 h3 h4 h5
theorem Dw.left {g : List (List Int)} {L M : List Int} {a b : Nat} (h : Dw g L a b) : Dw g (L ++ M) a b := by
  induction h with
  | refl => exact .refl
  | step _ h1 h2 h3 h4 h5 ih =>
    refine .step ih h1 h2 h3 ?_ ?_
    · rw [List.getElem?_append_left (List.getElem?_eq_some_iff.1 h4).1]; exact h4
    · rw [List.getElem?_append_left (List.getElem?_eq_some_iff.1 h5).1]; exact h5
theorem Dw.right {g : List (List Int)} {L M : List Int} {a b : Nat} (h : Dw g M a b) : Dw g (L ++ M) a b := by
  induction h with
  | refl => exact .refl
  | step _ h1 h2 h3 h4 h5 ih =>
    rename_i b c i j _
    refine .step (i := L.length + i) (j := L.length + j) ih h1 h2 (by omega) ?_ ?_
    · rw [List.getElem?_append_right (by omega), Nat.add_sub_cancel_left]; exact h4
    · rw [List.getElem?_append_right (by omega), Nat.add_sub_cancel_left]; exact h5
/-- a step to one that was left no earlier: from that one came. -/
def Cl (g : List (List Int)) (L : List Int) : Prop := ∀ x q i j : Nat, L[j]? = some (x : Int) → L[i]? = some (q : Int) → j ≤ i → (q : Int) ∈ g.getD x [] → q < g.length → Dw g L q x
def Goes2 (g : List (List Int)) (f : Nat) (rec : Nat → List Bool → List Int → List Bool × List Int) : Prop := ∀ (p : Nat) (m : List Bool) (l : List Int), m[p]? = some false → un m ≤ f → m.length = g.length → ∃ new, (rec p m l).2 = l ++ new ∧ (∀ x : Nat, (x : Int) ∈ new → Dw g new p x) ∧ Cl g new
theorem all2 {g : List (List Int)} {f : Nat} {rec : Nat → List Bool → List Int → List Bool × List Int} {m : List Bool} {l : List Int} (hr : Fl9.Good g.length f rec) (hg : Goes g f rec) (h2 : Goes2 g f rec) : ∀ (ks : List Int) {s : List Bool × List Int}, Dn g.length f m l s → ∃ new, (ks.foldl (stepV g.length rec) s).2 = s.2 ++ new ∧ (∀ x : Nat, (x : Int) ∈ new → ∃ q : Nat, (q : Int) ∈ ks ∧ q < g.length ∧ (q : Int) ∈ new ∧ Dw g new q x) ∧ Cl g new
  | [], s, _ => ⟨[], by simp, by simp, fun x q i j h => by simp at h⟩
  | k :: r, s, h => by
    obtain ⟨n1, e1, p1, c1, w1⟩ : ∃ n1, (stepV g.length rec s k).2 = s.2 ++ n1 ∧ (∀ x : Nat, (x : Int) ∈ n1 → ∃ q : Nat, (q : Int) = k ∧ q < g.length ∧ (q : Int) ∈ n1 ∧ Dw g n1 q x) ∧ Cl g n1 ∧ ∀ x : Nat, (x : Int) ∈ n1 → ∀ q : Nat, (q : Int) ∈ g.getD x [] → q < g.length → (stepV g.length rec s k).1[q]? = some true := by
      unfold stepV
      split
      · rename_i hk
        obtain ⟨n1, a1, a2, a3⟩ := h2 k.toNat s.1 s.2 hk.2.2 h.fuel h.len
        obtain ⟨n1', b1, b2⟩ := hg k.toNat s.1 s.2 hk.2.2 h.fuel h.len
        have e : n1' = n1 := by
          have := b1.left
          rw [a1] at this
          exact (List.append_cancel_left this).symm
        subst e
        have ek : ((k.toNat : Nat) : Int) = k := Int.toNat_of_nonneg hk.1
        refine ⟨n1', a1, fun x hx => ⟨k.toNat, ek, by omega, b2, a2 x hx⟩, a3, fun x hx q hq hl => b1.lead _ hx q (by rw [Int.toNat_natCast]; exact hq) hl⟩
      · exact ⟨[], by simp, by simp, fun x q i j h => by simp at h, by simp⟩
    obtain ⟨n2, e2, p2, c2⟩ := all2 hr hg h2 r (h.step hr k)
    obtain ⟨n2', b1, _⟩ := gone_all hr hg r (h.step hr k)
    have e : n2' = n2 := by
      have := b1.left
      rw [e2] at this
      exact (List.append_cancel_left this).symm
    subst e
    refine ⟨n1 ++ n2', by rw [List.foldl_cons, e2, e1, List.append_assoc], fun x hx => ?_, fun x q i j hj hi hle hq hl => ?_⟩
    · rcases List.mem_append.1 hx with hx | hx
      · obtain ⟨q, h3, h4, h5, h6⟩ := p1 x hx
        exact ⟨q, by rw [h3]; simp, h4, List.mem_append_left _ h5, h6.left⟩
      · obtain ⟨q, h3, h4, h5, h6⟩ := p2 x hx
        exact ⟨q, List.mem_cons_of_mem _ h3, h4, List.mem_append_right _ h5, h6.right⟩
    · by_cases hj1 : j < n1.length
      · rw [List.getElem?_append_left hj1] at hj
        by_cases hi1 : i < n1.length
        · rw [List.getElem?_append_left hi1] at hi
          exact (c1 x q i j hj hi hle hq hl).left
        · rw [List.getElem?_append_right (by omega)] at hi
          obtain ⟨q2, e3, _, h4⟩ := b1.was _ (List.mem_of_getElem? hi)
          obtain rfl : q = q2 := by omega
          rw [w1 x (List.mem_of_getElem? hj) q hq hl] at h4
          cases h4
      · rw [List.getElem?_append_right (by omega)] at hj hi
        exact (c2 x q _ _ hj hi (by omega) hq hl).right
theorem down2 (g : List (List Int)) : ∀ f, Goes2 g f (downV g f)
  | 0 => fun p m l hp hf hl => by
    have := un_set hp
    omega
  | f + 1 => fun p m l hp hf hl => by
    obtain ⟨new, h1, h2, h3⟩ := all2 (down_good g f) (down_goes g f) (down2 g f) (g.getD p []) (Dn.start (l := l) hp hf hl)
    obtain ⟨new', b1, _⟩ := gone_all (down_good g f) (down_goes g f) (g.getD p []) (Dn.start (l := l) hp hf hl)
    have e : new' = new := by
      have := b1.left
      rw [h1] at this
      exact (List.append_cancel_left this).symm
    subst e
    have hpl : p < m.length := (List.getElem?_eq_some_iff.1 hp).1
    have hpn : (p : Int) ∉ new' := fun h => by
      obtain ⟨q, e, _, h3⟩ := b1.was _ h
      obtain rfl : p = q := by omega
      simp only at h3
      rw [List.getElem?_set_self hpl] at h3
      cases h3
    have hlast : (new' ++ [(p : Int)])[new'.length]? = some (p : Int) := by simp
    have hpath : ∀ x : Nat, (x : Int) ∈ new' ++ [(p : Int)] → Dw g (new' ++ [(p : Int)]) p x := by
      intro x hx
      rcases List.mem_append.1 hx with hx | hx
      · obtain ⟨q, h4, h5, h6, h7⟩ := h2 x hx
        obtain ⟨i, hi⟩ := List.mem_iff_getElem?.1 h6
        have hil := (List.getElem?_eq_some_iff.1 hi).1
        exact (Dw.step .refl h4 h5 hil (by rw [List.getElem?_append_left hil]; exact hi) hlast).trans h7.left
      · rw [List.mem_singleton] at hx
        obtain rfl : x = p := by omega
        exact .refl
    refine ⟨new' ++ [(p : Int)], by rw [downV]; simp only; rw [h1, List.append_assoc], hpath, fun x q i j hj hi hle hq hl2 => ?_⟩
    by_cases hi1 : i < new'.length
    · rw [List.getElem?_append_left (by omega)] at hj hi
      exact (h3 x q i j hj hi hle hq hl2).left
    · rw [List.getElem?_append_right (by omega)] at hi
      have : q = p := by
        cases hk : i - new'.length with
        | zero => rw [hk] at hi; simp at hi; omega
        | succ k => rw [hk] at hi; simp at hi
      subst this
      exact hpath x (List.mem_of_getElem? hj)
/-- steps along the order. -/
inductive Asc (g : List (List Int)) (a : Nat) : Nat → Prop
  | refl : Asc g a a
  | step {b c : Nat} : Asc g a b → (c : Int) ∈ g.getD b [] → Come g b → Come g c → pos g b < pos g c → Asc g a c
theorem left_pos {g : List (List Int)} {q i : Nat} (h : (startV g).2[i]? = some (q : Int)) : Come g q ∧ pos g q + 1 + i = (startV g).2.length := by
  have hi := (List.getElem?_eq_some_iff.1 h).1
  have e := order_start g
  have h2 : (orderV g)[(startV g).2.length - 1 - i]? = some (q : Int) := by
    rw [e, List.getElem?_reverse (by omega), show (startV g).2.length - 1 - ((startV g).2.length - 1 - i) = i by omega]
    exact h
  exact ⟨ord_mem.1 (List.mem_of_getElem? h2), by have := pos_of h2; omega⟩
theorem dw_asc {g : List (List Int)} {a b : Nat} (h : Dw g (startV g).2 a b) : Asc g a b := by
  induction h with
  | refl => exact .refl
  | step _ h1 h2 h3 h4 h5 ih =>
    obtain ⟨k1, k2⟩ := left_pos h4
    obtain ⟨k3, k4⟩ := left_pos h5
    exact .step ih h1 k3 k1 (by omega)
/-- a step against the order: from where it leads one came by steps along it. -/
theorem against {g : List (List Int)} {u v : Nat} (hu : Come g u) (hv : Come g v) (hl : (v : Int) ∈ g.getD u []) (hle : pos g v ≤ pos g u) : Asc g v u := by
  have h0 : g.length ≠ 0 := by have := hu.last.1; omega
  have hp : (List.replicate g.length false)[0]? = some false := by rw [List.getElem?_replicate, if_pos (by omega)]
  obtain ⟨new, h1, _, h3⟩ := down2 g g.length 0 (List.replicate g.length false) [] hp (by rw [un_none]; exact Nat.le_refl _) (by simp)
  have e : (startV g).2 = new := by
    have : (startV g).2 = [] ++ new := h1
    simpa using this
  rw [← e] at h3
  have idx : ∀ q : Nat, Come g q → ∃ i : Nat, (startV g).2[i]? = some (q : Int) := by
    intro q hq
    have hm := ord_mem.2 hq
    rw [order_start, List.mem_reverse] at hm
    exact List.mem_iff_getElem?.1 hm
  obtain ⟨i, hi⟩ := idx v hv
  obtain ⟨j, hj⟩ := idx u hu
  have k1 := (left_pos hi).2
  have k2 := (left_pos hj).2
  exact dw_asc (h3 u v i j hj hi (by omega) hl hv.last.1)
/-- who stands further behind isn't needed. -/
theorem way_ahead {g : List (List Int)} {a : Nat} (ha : Come g a) : ∀ (n b : Nat), pos g b < n → Come g b → pos g b < pos g a → Dm10.Way g (fun p => p ≠ a) 0 b
  | 0, b, h, _, _ => by omega
  | n + 1, b, h, hb, hlt => by
    have hne : b ≠ a := fun e => by subst e; omega
    by_cases hb0 : b = 0
    · subst hb0; exact .refl hb.last.1 hne
    · obtain ⟨p, hp, h1, h2⟩ := pos_fwd hb hb0
      exact .step (way_ahead ha n p (by omega) hp (by omega)) h2 hb.last.1 hne
theorem dom_pos {g : List (List Int)} {a b : Nat} (h : Dom g a b) (hne : a ≠ b) : pos g a < pos g b := by
  refine Classical.byContradiction fun hn => ?_
  have hle : pos g b ≠ pos g a := fun e => hne (pos_inj h.come h.1 e.symm)
  exact h.2.2 (way_ahead h.come (pos g b + 1) b (by omega) h.1 (by omega))
/-- the steps that are no step back to a head. -/
def Fw (g : List (List Int)) (i k : Nat) : Prop := (Come g i ∧ Come g k) ∧ (k : Int) ∈ g.getD i [] ∧ ¬ Dom g k i
/-- ways of a step or more. -/
inductive Rd (st : Nat → Nat → Prop) (a : Nat) : Nat → Prop
  | one {b : Nat} : st a b → Rd st a b
  | more {b c : Nat} : Rd st a b → st b c → Rd st a c
theorem asc_rd {g : List (List Int)} {a b : Nat} (h : Asc g a b) : a = b ∨ Rd (Fw g) a b := by
  induction h with
  | refl => exact .inl rfl
  | step _ h1 h2 h3 h4 ih =>
    rename_i b c _
    have hf : Fw g b c := ⟨⟨h2, h3⟩, h1, fun hd => by have := dom_pos hd (fun e => by subst e; omega); omega⟩
    rcases ih with ih | ih
    · subst ih; exact .inr (.one hf)
    · exact .inr (.more ih hf)
/-- in a graph that isn't crossed each step against the order is one back to a head. -/
theorem retreat {g : List (List Int)} (hn : ∀ i, ¬ Rd (Fw g) i i) {u v : Nat} (hu : Come g u) (hv : Come g v) (hl : (v : Int) ∈ g.getD u []) (hle : pos g v ≤ pos g u) : Dom g v u := by
  refine Classical.byContradiction fun hd => ?_
  rcases asc_rd (against hu hv hl hle) with e | h
  · subst e; exact hd (Dom.self hu)
  · exact hn v (.more h ⟨⟨hu, hv⟩, hl, hd⟩)
/-- the loop of a head: who leads back to it, and who comes to these without it. -/
def Backs (g : List (List Int)) (h b : Nat) : Prop := Come g b ∧ (h : Int) ∈ g.getD b [] ∧ Dom g h b
def Body (g : List (List Int)) (h i : Nat) : Prop := i = h ∨ (i ≠ h ∧ Come g i ∧ ∃ b, Backs g h b ∧ Dm10.Way g (fun p => p ≠ h) i b)
theorem Body.dom {g : List (List Int)} {h i : Nat} (hh : Come g h) (k : Body g h i) : Dom g h i := by
  rcases k with e | ⟨_, hi, b, hb, hw⟩
  · subst e; exact Dom.self hh
  · exact ⟨hi, hh.last.1, fun w => hb.2.2.2.2 (w.trans hw)⟩
/-- what leads into a loop elsewhere than to its head stands in it. -/
theorem Body.enter {g : List (List Int)} {h x y : Nat} (k : Body g h x) (hx : x ≠ h) (hy : Come g y) (hl : (x : Int) ∈ g.getD y []) : Body g h y := by
  rcases k with e | ⟨_, hxc, b, hb, hw⟩
  · exact absurd e hx
  · by_cases e : y = h
    · exact .inl e
    · exact .inr ⟨e, hy, b, hb, (Dm10.Way.step (.refl hy.last.1 e) hl hxc.last.1 hx).trans hw⟩
theorem back_body {g : List (List Int)} {h b : Nat} (hb : Backs g h b) : Body g h b := by
  by_cases e : b = h
  · exact .inl e
  · exact .inr ⟨e, hb.1, b, hb, .refl hb.1.last.1 e⟩
/-- a way that avoids a, or one that ends in a part from a on. -/
theorem way_cut {g : List (List Int)} {ok : Nat → Prop} {a s q : Nat} (h : Dm10.Way g ok s q) : Dm10.Way g (fun p => ok p ∧ p ≠ a) s q ∨ Dm10.Way g ok a q := by
  induction h with
  | refl h1 h2 =>
    by_cases e : s = a
    · subst e; exact .inr (.refl h1 h2)
    · exact .inl (.refl h1 ⟨h2, e⟩)
  | step _ h1 h2 h3 ih =>
    rename_i q r _
    by_cases e : r = a
    · subst e; exact .inr (.refl h2 h3)
    · rcases ih with ih | ih
      · exact .inl (.step ih h1 h2 ⟨h3, e⟩)
      · exact .inr (.step ih h1 h2 h3)
/-- from the last a on: a way to q that goes through a has a part from a to q that comes by a no more. -/
theorem way_last {g : List (List Int)} {a s q : Nat} (h : Dm10.Way g (fun _ => True) s q) : Dm10.Way g (fun p => p ≠ a) s q ∨ (∃ r : Nat, a < g.length ∧ (r : Int) ∈ g.getD a [] ∧ Dm10.Way g (fun p => p ≠ a) r q) ∨ q = a := by
  induction h with
  | refl h1 h2 =>
    by_cases e : s = a
    · exact .inr (.inr e)
    · exact .inl (.refl h1 e)
  | step h0 h1 h2 h3 ih =>
    rename_i q r
    by_cases e : r = a
    · exact .inr (.inr e)
    · rcases ih with ih | ⟨r2, k1, k2, k3⟩ | ih
      · exact .inl (.step ih h1 h2 e)
      · exact .inr (.inl ⟨r2, k1, k2, .step k3 h1 h2 e⟩)
      · subst ih
        exact .inr (.inl ⟨r, h0.last.1, h1, .refl h2 e⟩)
theorem way_come9 {g : List (List Int)} {ok : Nat → Prop} {s q : Nat} (hs : Come g s) (h : Dm10.Way g ok s q) : Come g q := hs.trans (h.mono fun _ _ => trivial)
/-- two loops that have a point in common, the one head dominating the other: the one has all points of the other. -/
theorem nest_one {g : List (List Int)} {h1 h2 x : Nat} (c1 : Come g h1) (c2 : Come g h2) (hne : h1 ≠ h2) (k1 : Body g h1 x) (k2 : Body g h2 x) (hd : Dom g h1 h2) : ∀ y, Body g h2 y → Body g h1 y := by
  have hno : ¬ Body g h2 h1 := fun h => hne (dom_anti hd (h.dom c2))
  have hx1 : x ≠ h1 := fun e => hno (e ▸ k2)
  obtain ⟨_, hxc, b1, hb1, hw1⟩ := k1.resolve_left hx1
  -- a way to a point of the loop of h2, that avoids h2, doesn't come by h1
  have avoid : ∀ s q, Dm10.Way g (fun p => p ≠ h2) s q → Body g h2 q → Dm10.Way g (fun p => p ≠ h1) s q := by
    intro s q hw hq
    rcases way_cut (a := h1) hw with h | h
    · exact h.mono fun _ h => h.2
    · exfalso
      refine hno (.inr ⟨hne, c1, ?_⟩)
      rcases hq with e | ⟨_, _, b, hb, hwb⟩
      · exact absurd e h.last.2
      · exact ⟨b, hb, h.trans hwb⟩
  -- from h2 to x without h1
  have hto : Dm10.Way g (fun p => p ≠ h1) h2 x := by
    have hdx := k2.dom c2
    rcases way_last (a := h2) hdx.1 with h | ⟨r, e1, e2, e3⟩ | h
    · exact absurd h hdx.2.2
    · have h4 := avoid r x e3 k2
      exact (Dm10.Way.step (.refl e1 (fun e => hne e.symm)) e2 h4.start.1 h4.start.2).trans h4
    · subst h; exact .refl c2.last.1 (fun e => hne e.symm)
  intro y hy
  by_cases e : y = h1
  · exact .inl e
  · by_cases e2 : y = h2
    · subst e2
      exact .inr ⟨e, c2, b1, hb1, hto.trans hw1⟩
    · obtain ⟨_, hyc, b2, hb2, hw2⟩ := hy.resolve_left e2
      have h4 := avoid y b2 hw2 (back_body hb2)
      exact .inr ⟨e, hyc, b1, hb1, (h4.trans (Dm10.Way.step (.refl h4.last.1 h4.last.2) hb2.2.1 c2.last.1 (fun e => hne e.symm))).trans (hto.trans hw1)⟩
theorem nest {g : List (List Int)} {h1 h2 x : Nat} (c1 : Come g h1) (c2 : Come g h2) (k1 : Body g h1 x) (k2 : Body g h2 x) : (∀ y, Body g h2 y → Body g h1 y) ∨ (∀ y, Body g h1 y → Body g h2 y) := by
  by_cases hne : h1 = h2
  · subst hne; exact .inl fun _ h => h
  · rcases dom_row (k1.dom c1) (k2.dom c2) with hd | hd
    · exact .inl (nest_one c1 c2 hne k1 k2 hd)
    · exact .inr (nest_one c2 c1 (fun e => hne e.symm) k2 k1 hd)
end Go.Proofs.Ytiohngbmddfgfaa.Lp11
