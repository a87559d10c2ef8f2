/-
  Layer 15: what the statements share: the examples of their awake.
-/
import Derived.Test.YtclikfeaodfmkaaHpAlike
import Derived.Test.YtclikfeaodfmkaaHpStore
import Derived.Deep.RegionHeld3
namespace Go.Proofs.Ytclikfeaodfmkaa.L15
open Go.RowKit Api Mem Hp15

abbrev toV (n : Int) : Vl := ⟨wRef, n⟩
abbrev wP : Wd := [80]
abbrev selfH : Hp := [⟨wP, [toV 1]⟩]
abbrev twoH : Hp := [⟨wP, [toV 2]⟩, ⟨wP, [toV 1]⟩]
theorem ex_self : ¬ AlikeP selfH [toV 1] twoH [toV 1] := by
  rintro ⟨P, h1, h2, h3⟩
  have a1 := (h3.2 0 _ _ rfl rfl).2.2 rfl
  have p11 : P 1 1 := a1.2.2 ⟨rfl, by decide, by decide⟩
  obtain ⟨o, p, b1, b2, _, b4⟩ := h2 1 1 p11
  cases b1
  cases b2
  have a2 := (b4.2 0 _ _ rfl rfl).2.2 rfl
  have p12 : P 1 2 := a2.2.2 ⟨rfl, by decide, by decide⟩
  have := h1.1 1 1 2 p11 p12
  omega
theorem av_two {P : Int → Int → Prop} {n m : Int} (h1 : 1 ≤ n) (h2 : n ≤ 2) (h3 : 1 ≤ m) (h4 : m ≤ 2) (hp : P n m) : AV twoH twoH P (toV n) (toV m) :=
  ⟨rfl, fun e => absurd rfl e, fun _ => ⟨⟨fun e => by simp only at e; omega, fun e => by simp only at e; omega⟩, ⟨fun _ => ⟨rfl, h3, h4⟩, fun _ => ⟨rfl, h1, h2⟩⟩, fun _ => hp⟩⟩
theorem avs_one {P : Int → Int → Prop} {n m : Int} (h : AV twoH twoH P (toV n) (toV m)) : AVs twoH twoH P [toV n] [toV m] := ⟨rfl, fun i x y h1 h2 => by
  match i, h1, h2 with
  | 0, h1, h2 => simp at h1 h2; subst h1; subst h2; exact h
  | i + 1, h1, _ => simp at h1⟩
theorem ex_two : AlikeP twoH [toV 1] twoH [toV 2] := by
  refine ⟨fun n m => (n = 1 ∧ m = 2) ∨ (n = 2 ∧ m = 1), ⟨fun n m m' a b => by omega, fun n n' m a b => by omega⟩, fun n m hp => ?_, avs_one (av_two (by decide) (by decide) (by decide) (by decide) (.inl ⟨rfl, rfl⟩))⟩
  rcases hp with ⟨rfl, rfl⟩ | ⟨rfl, rfl⟩
  · exact ⟨_, _, rfl, rfl, rfl, avs_one (av_two (by decide) (by decide) (by decide) (by decide) (.inr ⟨rfl, rfl⟩))⟩
  · exact ⟨_, _, rfl, rfl, rfl, avs_one (av_two (by decide) (by decide) (by decide) (by decide) (.inl ⟨rfl, rfl⟩))⟩
set_option maxRecDepth 100000 in
set_option maxHeartbeats 8000000 in
theorem to_any (w : World) (n : Int) : Calls Try.prog 11 #[i64 n] w fun e w' => e = .returned (vlA (toV n)) ∧ Below w.heap.size w w' := by
  go_enter Try.func11, Try.ntmps11
  go_wp2_with fail
  exact bodyPost_ret (v := vlA (toV n)) (by rw [results_cell15 rfl]; go_simp) rfl ⟨rfl, up15 w _⟩
theorem own_row2 {w : World} {b n : Nat} {t : TypeId} {cs : List Value} (h : Mem.Own w b t cs) (hl : cs.length = n * 2) (hn : n ≤ 1000) : w.ownsRow b t 2 (.slice (some ⟨b, 0, none⟩) n n) n cs :=
  ⟨hl, .inr ⟨b, n, cs.toArray, rfl, Nat.le_refl _, h, Nat.le_refl _, by unfold maxLen; omega, by simpa using hl, by simp [← hl]⟩⟩
theorem vls_lit {w : World} {b hi : Nat} {l : List Vl} (h : Mem.Own w b 25 (pcV l)) (hh : w.heap.size ≤ hi) (hl : l.length ≤ 1000) : Vls 0 hi w (.slice (some ⟨b, 0, none⟩) l.length l.length) l :=
  VOwn.vls ((show VOwn w b _ l from own_row2 h (pcV_len l) hl).lower (Nat.zero_le _)) hh (by omega)
theorem obs_of {w : World} {base hi : Nat} {v : Value} {us : List Value} {H : Hp} (h : w.ownsRow base 33 2 v H.length (obC us H)) (hv : us.length = H.length) (hh : w.heap.size ≤ hi) (hl : H.length ≤ 1000) (hin : ∀ (i : Nat) (u : Value) (x : Ob), us[i]? = some u → H[i]? = some x → Vls 0 hi w u x.vals) : Obs 0 hi w v H :=
  Hold.Rec.on.row (r := outO v us H) (ys := List.zipWith (fun (u : Value) (x : Ob) => [str x.cls, u]) us H) (Hold.Rec.on.lower (r := outO v us H) h (Nat.zero_le _)) hh (by show H.length ≤ _; omega) rfl (by simp [hv]) rfl (by
    intro i c x hc hx
    have hi := (List.getElem?_eq_some_iff.1 hx).1
    obtain ⟨u, hu⟩ : ∃ u, us[i]? = some u := ⟨_, List.getElem?_eq_getElem (by omega)⟩
    rw [List.getElem?_zipWith, hu, hx] at hc
    cases hc
    exact ⟨rfl, u, rfl, hin i u x hu hx⟩)
theorem made15 {w : World} {g : Nat} (hg : g = w.heap.size) (t : TypeId) (cs : List Value) : Mem.Own (w.alloc (.cells cs.toArray t)) g t cs := hg ▸ Own.made w t cs
theorem obs_nil {w : World} {hi : Nat} : Obs 0 hi w (.slice none 0 0) [] := ⟨none, 0, 0, 0, 0, rfl, rfl, by omega, by omega, fun i x h => by simp at h⟩
theorem self_made {w W : World} (h : (w.alloc (Obj.cells #[str wRef, i64 1] 25)).alloc (Obj.cells #[str wP, .slice (some ⟨w.heap.size, 0, none⟩) 1 1] 33) = W) :
    Obs 0 W.heap.size W (.slice (some ⟨w.heap.size + 1, 0, none⟩) 1 1) selfH ∧ Below w.heap.size w W := by
  subst h
  have o1 := (Own.made w 25 [str wRef, i64 1]).alloc (Obj.cells #[str wP, .slice (some ⟨w.heap.size, 0, none⟩) 1 1] 33)
  have o2 := made15 (w := w.alloc (Obj.cells #[str wRef, i64 1] 25)) (g := w.heap.size + 1) (by simp) 33 [str wP, .slice (some ⟨w.heap.size, 0, none⟩) 1 1]
  refine ⟨obs_of (base := w.heap.size + 1) (us := [.slice (some ⟨w.heap.size, 0, none⟩) 1 1]) (H := selfH) (own_row2 o2 rfl (by decide)) rfl (Nat.le_refl _) (by decide) fun i u x hu hx => ?_, (up15 w _).trans ((up15 _ _).mono (by simp))⟩
  match i, hu, hx with
  | 0, hu, hx => simp at hu hx; subst hu; subst hx; exact vls_lit (l := [toV 1]) o1 (Nat.le_refl _) (by decide)
  | i + 1, hu, _ => simp at hu
theorem two_made {w : World} {W v : World} {b : Nat} (hb : b < w.heap.size) (ho : Mem.Own w b 25 [str wRef, i64 2]) (h : (w.alloc (Obj.cells #[str wRef, i64 1] 25)).alloc (Obj.cells #[str wP, .slice (some ⟨b, 0, none⟩) 1 1, str wP, .slice (some ⟨w.heap.size, 0, none⟩) 1 1] 33) = W) :
    Obs 0 W.heap.size W (.slice (some ⟨w.heap.size + 1, 0, none⟩) 2 2) twoH ∧ Below w.heap.size w W := by
  subst h
  have o0 := (ho.alloc (Obj.cells #[str wRef, i64 1] 25)).alloc (Obj.cells #[str wP, .slice (some ⟨b, 0, none⟩) 1 1, str wP, .slice (some ⟨w.heap.size, 0, none⟩) 1 1] 33)
  have o1 := (Own.made w 25 [str wRef, i64 1]).alloc (Obj.cells #[str wP, .slice (some ⟨b, 0, none⟩) 1 1, str wP, .slice (some ⟨w.heap.size, 0, none⟩) 1 1] 33)
  have o2 := made15 (w := w.alloc (Obj.cells #[str wRef, i64 1] 25)) (g := w.heap.size + 1) (by simp) 33 [str wP, .slice (some ⟨b, 0, none⟩) 1 1, str wP, .slice (some ⟨w.heap.size, 0, none⟩) 1 1]
  refine ⟨obs_of (base := w.heap.size + 1) (us := [.slice (some ⟨b, 0, none⟩) 1 1, .slice (some ⟨w.heap.size, 0, none⟩) 1 1]) (H := twoH) (own_row2 o2 rfl (by decide)) rfl (Nat.le_refl _) (by decide) fun i u x hu hx => ?_, (up15 w _).trans ((up15 _ _).mono (by simp))⟩
  match i, hu, hx with
  | 0, hu, hx => simp at hu hx; subst hu; subst hx; exact vls_lit (l := [toV 2]) o0 (Nat.le_refl _) (by decide)
  | 1, hu, hx => simp at hu hx; subst hu; subst hx; exact vls_lit (l := [toV 1]) o1 (Nat.le_refl _) (by decide)
  | i + 2, hu, _ => simp at hu
theorem val_made {w W : World} {x : Vl} (h : w.alloc (Obj.cells #[str x.ty, i64 x.n] 25) = W) : Vls 0 W.heap.size W (.slice (some ⟨w.heap.size, 0, none⟩) 1 1) [x] ∧ Below w.heap.size w W := by
  subst h
  exact ⟨vls_lit (l := [x]) (Own.made w 25 [str x.ty, i64 x.n]) (Nat.le_refl _) (by show 1 ≤ 1000; decide), up15 w _⟩
theorem vls_up {v : Value} {l : List Vl} {w w' : World} (h : Vls 0 w.heap.size w v l) (hb : Below w.heap.size w w') : Vls 0 w'.heap.size w' v l := Vls.move ⟨fun k _ hk => hb.block k hk, Nat.zero_le _, hb.size⟩ h
theorem obs_up {v : Value} {H : Hp} {w w' : World} (h : Obs 0 w.heap.size w v H) (hb : Below w.heap.size w w') : Obs 0 w'.heap.size w' v H := Obs.move ⟨fun k _ hk => hb.block k hk, Nat.zero_le _, hb.size⟩ h
abbrev newH : Hp := [⟨wP, [⟨wInt, 5⟩]⟩]
abbrev newI : Hp := [⟨wP, [⟨wInt, 6⟩]⟩]
theorem has_new (n : Int) : HasF [⟨wP, [⟨wInt, n⟩]⟩] (toV 1) 0 := ⟨⟨rfl, by decide, by simp⟩, by decide, _, rfl, by simp⟩
theorem field_new (n : Int) : FieldP [⟨wP, [⟨wInt, n⟩]⟩] (toV 1) 0 ⟨wInt, n⟩ true := .inl ⟨rfl, has_new n, _, rfl, rfl⟩
theorem set_new {H' : Hp} {ok : Bool} (h : SetP newH (toV 1) 0 ⟨wInt, 6⟩ H' ok) : ok = true ∧ H' = newI := by
  rcases h with ⟨h1, _, x, h2, h3⟩ | ⟨_, h2, _⟩
  · have h4 : newH[plH (toV 1)]? = some ⟨wP, [⟨wInt, 5⟩]⟩ := rfl
    rw [h4] at h2
    cases h2
    exact ⟨h1, h3⟩
  · exact absurd (has_new 5) h2
theorem in_small {n : Int} (h1 : -1000 ≤ n) (h2 : n ≤ 1000) : NumM.In n := ⟨by omega, by omega⟩
theorem new_good (n : Int) (h1 : -1000 ≤ n) (h2 : n ≤ 1000) : obG ⟨wP, [⟨wInt, n⟩]⟩ := ⟨show wP.length ≤ _ by decide, fun v hv => by rw [List.mem_singleton] at hv; subst hv; exact ⟨show wInt.length ≤ _ by decide, in_small h1 h2⟩⟩
theorem one_good {x : Ob} (h : obG x) : hpG [x] := fun y hy => by rw [List.mem_singleton] at hy; subst hy; exact h
theorem to_good {n : Int} (h1 : -1000 ≤ n) (h2 : n ≤ 1000) : vlG (toV n) := ⟨show wRef.length ≤ _ by decide, in_small h1 h2⟩
theorem self_good : hpG selfH := one_good ⟨by decide, fun v hv => by rw [List.mem_singleton] at hv; subst hv; exact to_good (by decide) (by decide)⟩
theorem two_good : hpG twoH := fun x hx => by
  simp only [List.mem_cons, List.not_mem_nil, or_false] at hx
  rcases hx with rfl | rfl <;> exact ⟨by decide, fun v hv => by rw [List.mem_singleton] at hv; subst hv; exact to_good (by decide) (by decide)⟩
theorem ones_good {n : Int} (h1 : -1000 ≤ n) (h2 : n ≤ 1000) : ∀ x ∈ [toV n], vlG x := fun v hv => by rw [List.mem_singleton] at hv; subst hv; exact to_good h1 h2
set_option maxRecDepth 100000 in
set_option maxHeartbeats 16000000 in
theorem awake_any (w : World) : Calls Try.prog 4 #[] w fun e w' => e = .returned (.bool true) ∧ Below w.heap.size w w' := by
  go_enter Try.func4, Try.ntmps4
  go_wp2_with fail
  refine (to_any w 1).mono ?_
  rintro e w1 ⟨rfl, hb1⟩
  have HX1 := Lib.hid hb1
  clear hb1
  go_wp2_with fail
  obtain ⟨W1, hW1⟩ : ∃ W, (w1.alloc (Obj.cells #[str wRef, i64 1] 25)).alloc (Obj.cells #[str wP, .slice (some ⟨w1.heap.size, 0, none⟩) 1 1] 33) = W := ⟨_, rfl⟩
  obtain ⟨hs1, hb1⟩ := self_made hW1
  rw [show ({ data := #[80] } : ByteArray) = ⟨wP.toArray⟩ from rfl, hW1]
  have HS1 := Lib.hid hs1
  have HXA := Lib.hid (HX1.out.trans (hb1.mono HX1.out.size))
  clear hs1 hb1 hW1
  refine (to_any W1 2).mono ?_
  rintro e w2 ⟨rfl, hb2⟩
  have HS2 := Lib.hid (obs_up HS1.out hb2)
  have HX2 := Lib.hid (HXA.out.trans (hb2.mono HXA.out.size))
  clear hb2
  go_wp2_with fail
  obtain ⟨W2, hW2⟩ : ∃ W, w2.alloc (Obj.cells #[str wRef, i64 2] 25) = W := ⟨_, rfl⟩
  rw [hW2]
  have HS3 := Lib.hid (show Obs 0 W2.heap.size W2 _ selfH from obs_up HS2.out (hW2 ▸ up15 w2 _))
  have HO2 := Lib.hid (show Mem.Own W2 w2.heap.size 25 [str wRef, i64 2] from hW2 ▸ Own.made w2 _ _)
  have HXB := Lib.hid (HX2.out.trans ((show Below w2.heap.size w2 W2 from hW2 ▸ up15 w2 _).mono HX2.out.size))
  clear hW2
  refine (to_any W2 1).mono ?_
  rintro e w3 ⟨rfl, hb3⟩
  have HS4 := Lib.hid (obs_up HS3.out hb3)
  have HO3 := Lib.hid (HO2.out.below hb3 HO2.out.lt)
  have HX3 := Lib.hid (HXB.out.trans (hb3.mono HXB.out.size))
  clear hb3
  go_wp2_with fail
  obtain ⟨W3, hW3⟩ : ∃ W, (w3.alloc (Obj.cells #[str wRef, i64 1] 25)).alloc (Obj.cells #[str wP, .slice (some ⟨w2.heap.size, 0, none⟩) 1 1, str wP, .slice (some ⟨w3.heap.size, 0, none⟩) 1 1] 33) = W := ⟨_, rfl⟩
  obtain ⟨hs1, hb1⟩ := two_made (v := w3) HO3.out.lt HO3.out hW3
  have hsz : W3.heap.size = w3.heap.size + 1 + 1 := by rw [← hW3]; simp
  rw [show ({ data := #[80] } : ByteArray) = ⟨wP.toArray⟩ from rfl, hW3, ← hsz]
  have HT4 := Lib.hid hs1
  have HS5 := Lib.hid (obs_up HS4.out hb1)
  have HXC := Lib.hid (HX3.out.trans (hb1.mono HX3.out.size))
  clear hs1 hb1 hW3 hsz
  obtain ⟨W4, hW4⟩ : ∃ W, W3.alloc (Obj.cells #[str wInt, i64 5] 25) = W := ⟨_, rfl⟩
  obtain ⟨hv4, hb4⟩ := val_made (x := ⟨wInt, 5⟩) hW4
  rw [show ({ data := #[105, 110, 116] } : ByteArray) = ⟨wInt.toArray⟩ from rfl, hW4]
  have HT5 := Lib.hid (obs_up HT4.out hb4)
  have HS6 := Lib.hid (obs_up HS5.out hb4)
  have HXD := Lib.hid (HXC.out.trans (hb4.mono HXC.out.size))
  have HV4 := Lib.hid hv4
  clear hv4 hb4 hW4
  refine (new_any 0 W4.heap.size W4 _ _ [] wP [⟨wInt, 5⟩] obs_nil HV4.out (Nat.le_refl _) (fun x hx => by cases hx) ⟨by decide, fun x hx => by cases hx⟩ (new_good 5 (by decide) (by decide)) (by decide)).mono ?_
  rintro e w5 ⟨v5, rfl, ho5, hb5⟩
  rw [show ((([] : Hp).length : Int) + 1) = 1 from rfl]
  obtain ⟨A5, c5, e5⟩ := ho5.form
  rw [show ([] ++ [⟨wP, [⟨wInt, 5⟩]⟩] : Hp).length = 1 from rfl] at e5
  subst e5
  have hn5 : Obs 0 w5.heap.size w5 (.slice A5 1 c5) newH := Obs.move ⟨fun k _ _ => rfl, Nat.zero_le _, Nat.le_refl _⟩ (ho5.obs (Nat.le_refl _) (by decide) (by decide))
  obtain ⟨X5, hX5⟩ : ∃ X, w5.alloc (Obj.cells #[str wRef, i64 1] 25) = X := ⟨_, rfl⟩
  have hbx : Below w5.heap.size w5 X5 := hX5 ▸ up15 w5 _
  have HOV := Lib.hid (show Mem.Own X5 w5.heap.size 25 [str wRef, i64 1] from hX5 ▸ Own.made w5 _ _)
  have HN5 := Lib.hid (obs_up hn5 hbx)
  have HT6 := Lib.hid (obs_up (obs_up HT5.out hb5) hbx)
  have HS7 := Lib.hid (obs_up (obs_up HS6.out hb5) hbx)
  have HX5 := Lib.hid (HXD.out.trans ((hb5.mono HXD.out.size).trans (hbx.mono (Nat.le_trans HXD.out.size hb5.size))))
  have HXX5 := Lib.hid hX5
  clear ho5 hb5 hn5 hbx hX5
  go_wp2_with fail
  rw [show ({ data := #[114, 101, 102] } : ByteArray) = ⟨wRef.toArray⟩ from rfl, HXX5.out]
  refine (load_any 0 X5.heap.size X5 _ newH HN5.out (Nat.le_refl _) (one_good (new_good 5 (by decide) (by decide))) (toV 1) 0).mono ?_
  rintro e w6 ⟨r6, ok6, rfl, hf6, hb6⟩
  obtain ⟨rfl, rfl⟩ := field_one hf6 (field_new 5)
  obtain ⟨X6, hX6⟩ : ∃ X, w6.alloc (Obj.cells #[str wInt, i64 5] 25) = X := ⟨_, rfl⟩
  have hbx : Below w6.heap.size w6 X6 := hX6 ▸ up15 w6 _
  have HOX := Lib.hid (show Mem.Own X6 w6.heap.size 25 [str wInt, i64 5] from hX6 ▸ Own.made w6 _ _)
  have HOV6 := Lib.hid ((HOV.out.below hb6 HOV.out.lt).below hbx (Nat.lt_of_lt_of_le HOV.out.lt hb6.size))
  have HN6 := Lib.hid (obs_up (obs_up HN5.out hb6) hbx)
  have HT7 := Lib.hid (obs_up (obs_up HT6.out hb6) hbx)
  have HS8 := Lib.hid (obs_up (obs_up HS7.out hb6) hbx)
  have HX6 := Lib.hid (HX5.out.trans ((hb6.mono HX5.out.size).trans (hbx.mono (Nat.le_trans HX5.out.size hb6.size))))
  have HXX6 := Lib.hid hX6
  obtain ⟨_, p0, p1, _, _, p2⟩ := box2 HOV.out hb6
  clear hf6 hb6 hbx hX6
  go_wp2_with fail
  rw [show ({ data := #[105, 110, 116] } : ByteArray) = ⟨wInt.toArray⟩ from rfl, HXX6.out]
  clear p0 p1 p2
  refine (store_any 0 X6.heap.size X6 _ newH (toV 1) 0 ⟨wInt, 6⟩ HN6.out (Nat.le_refl _) (one_good (new_good 5 (by decide) (by decide))) ⟨by decide, fun x hx => by rw [List.mem_singleton] at hx; subst hx; decide⟩ ⟨by decide, in_small (by decide) (by decide)⟩).mono ?_
  rintro e w7 ⟨v7, ok7, H7, rfl, hs7, ho7, hb7⟩
  obtain ⟨rfl, rfl⟩ := set_new hs7
  obtain ⟨A7, c7, e7⟩ := ho7.form
  rw [show (newI : Hp).length = 1 from rfl] at e7
  subst e7
  have HI7 := Lib.hid (show Obs 0 w7.heap.size w7 (.slice A7 1 c7) newI from Obs.move ⟨fun k _ _ => rfl, Nat.zero_le _, Nat.le_refl _⟩ (ho7.obs (Nat.le_refl _) (by decide) (by decide)))
  have HT8 := Lib.hid (obs_up HT7.out hb7)
  have HS9 := Lib.hid (obs_up HS8.out hb7)
  have HOV7 := Lib.hid (HOV6.out.below hb7 HOV6.out.lt)
  have HOX7 := Lib.hid (HOX.out.below hb7 HOX.out.lt)
  have HX7 := Lib.hid (HX6.out.trans (hb7.mono HX6.out.size))
  obtain ⟨_, p0, p1, _, _, p2⟩ := box2 HOV7.out (Below.refl _ _)
  clear hs7 ho7 hb7
  go_wp2_with fail
  refine (load_any 0 w7.heap.size w7 _ newI HI7.out (Nat.le_refl _) (one_good (new_good 6 (by decide) (by decide))) (toV 1) 0).mono ?_
  rintro e w8 ⟨r8, ok8, rfl, hf8, hb8⟩
  obtain ⟨rfl, rfl⟩ := field_one hf8 (field_new 6)
  obtain ⟨X8, hX8⟩ : ∃ X, w8.alloc (Obj.cells #[str wInt, i64 6] 25) = X := ⟨_, rfl⟩
  have hbx : Below w8.heap.size w8 X8 := hX8 ▸ up15 w8 _
  have HOY := Lib.hid (show Mem.Own X8 w8.heap.size 25 [str wInt, i64 6] from hX8 ▸ Own.made w8 _ _)
  have HOX8 := Lib.hid ((HOX7.out.below hb8 HOX7.out.lt).below hbx (Nat.lt_of_lt_of_le HOX7.out.lt hb8.size))
  have HT9 := Lib.hid (obs_up (obs_up HT8.out hb8) hbx)
  have HSA := Lib.hid (obs_up (obs_up HS9.out hb8) hbx)
  have HX8 := Lib.hid (HX7.out.trans ((hb8.mono HX7.out.size).trans (hbx.mono (Nat.le_trans HX7.out.size hb8.size))))
  have HXX8 := Lib.hid hX8
  clear p0 p1 p2 hf8 hb8 hbx hX8
  go_wp2_with fail
  rw [show ({ data := #[105, 110, 116] } : ByteArray) = ⟨wInt.toArray⟩ from rfl, HXX8.out]
  obtain ⟨_, x0, x1, _, _, _⟩ := box2 HOX8.out (Below.refl _ _)
  obtain ⟨_, y0, y1, _, _, _⟩ := box2 HOY.out (Below.refl _ _)
  have HTP := HT9
  have HSP := HSA
  have HXP := HX8
  have HBP : Hid (Below X8.heap.size X8 X8) := Lib.hid (Below.refl _ _)
  refine (to_any X8 1).mono ?_
  rintro e u9 ⟨rfl, hbu⟩
  obtain ⟨X9, hE⟩ : ∃ X, u9.alloc (Obj.cells #[str wRef, i64 1] 25) = X := ⟨_, rfl⟩
  obtain ⟨hl, hbx⟩ := val_made (x := toV 1) hE
  have hball := hbu.trans (hbx.mono hbu.size)
  have HL9 := Lib.hid hl
  have HB9 := Lib.hid hball
  have HE9 := Lib.hid hE
  have HTN := Lib.hid (obs_up HTP.out (hball))
  have HSN := Lib.hid (obs_up HSP.out (hball))
  have HXN := Lib.hid (HXP.out.trans ((hball).mono HXP.out.size))
  have HBN := Lib.hid (HBP.out.trans ((hball).mono HBP.out.size))
  clear hl hbx hbu hball hE
  clear HTP HSP HXP HBP
  have HTP := HTN
  have HSP := HSN
  have HXP := HXN
  have HBP := HBN
  clear HTN HSN HXN HBN
  go_wp2_with fail
  rw [HE9.out]
  refine (to_any X9 1).mono ?_
  rintro e u10 ⟨rfl, hbu⟩
  obtain ⟨X10, hE⟩ : ∃ X, u10.alloc (Obj.cells #[str wRef, i64 1] 25) = X := ⟨_, rfl⟩
  obtain ⟨hl, hbx⟩ := val_made (x := toV 1) hE
  have hball := hbu.trans (hbx.mono hbu.size)
  have HL10 := Lib.hid hl
  have HB10 := Lib.hid hball
  have HE10 := Lib.hid hE
  have HTN := Lib.hid (obs_up HTP.out (hball))
  have HSN := Lib.hid (obs_up HSP.out (hball))
  have HXN := Lib.hid (HXP.out.trans ((hball).mono HXP.out.size))
  have HBN := Lib.hid (HBP.out.trans ((hball).mono HBP.out.size))
  clear hl hbx hbu hball hE
  clear HTP HSP HXP HBP
  have HTP := HTN
  have HSP := HSN
  have HXP := HXN
  have HBP := HBN
  clear HTN HSN HXN HBN
  go_wp2_with fail
  rw [HE10.out]
  refine (notH (alike_any (h := selfH) (k := twoH) (lo := 0) (hi := X10.heap.size) HSP.out (vls_up HL9.out HB10.out) HTP.out HL10.out (Nat.le_refl _) self_good two_good (ones_good (n := 1) (by decide) (by decide)) (ones_good (n := 1) (by decide) (by decide)) (by decide) (by decide)) ex_self).mono ?_
  rintro e X11 ⟨rfl, hb⟩
  have HTN := Lib.hid (obs_up HTP.out (hb))
  have HSN := Lib.hid (obs_up HSP.out (hb))
  have HXN := Lib.hid (HXP.out.trans ((hb).mono HXP.out.size))
  have HBN := Lib.hid (HBP.out.trans ((hb).mono HBP.out.size))
  clear hb
  clear HTP HSP HXP HBP
  have HTP := HTN
  have HSP := HSN
  have HXP := HXN
  have HBP := HBN
  clear HTN HSN HXN HBN
  go_wp2_with fail
  refine (to_any X11 1).mono ?_
  rintro e u12 ⟨rfl, hbu⟩
  obtain ⟨X12, hE⟩ : ∃ X, u12.alloc (Obj.cells #[str wRef, i64 1] 25) = X := ⟨_, rfl⟩
  obtain ⟨hl, hbx⟩ := val_made (x := toV 1) hE
  have hball := hbu.trans (hbx.mono hbu.size)
  have HL12 := Lib.hid hl
  have HB12 := Lib.hid hball
  have HE12 := Lib.hid hE
  have HTN := Lib.hid (obs_up HTP.out (hball))
  have HSN := Lib.hid (obs_up HSP.out (hball))
  have HXN := Lib.hid (HXP.out.trans ((hball).mono HXP.out.size))
  have HBN := Lib.hid (HBP.out.trans ((hball).mono HBP.out.size))
  clear hl hbx hbu hball hE
  clear HTP HSP HXP HBP
  have HTP := HTN
  have HSP := HSN
  have HXP := HXN
  have HBP := HBN
  clear HTN HSN HXN HBN
  go_wp2_with fail
  rw [HE12.out]
  refine (to_any X12 2).mono ?_
  rintro e u13 ⟨rfl, hbu⟩
  obtain ⟨X13, hE⟩ : ∃ X, u13.alloc (Obj.cells #[str wRef, i64 2] 25) = X := ⟨_, rfl⟩
  obtain ⟨hl, hbx⟩ := val_made (x := toV 2) hE
  have hball := hbu.trans (hbx.mono hbu.size)
  have HL13 := Lib.hid hl
  have HB13 := Lib.hid hball
  have HE13 := Lib.hid hE
  have HTN := Lib.hid (obs_up HTP.out (hball))
  have HSN := Lib.hid (obs_up HSP.out (hball))
  have HXN := Lib.hid (HXP.out.trans ((hball).mono HXP.out.size))
  have HBN := Lib.hid (HBP.out.trans ((hball).mono HBP.out.size))
  clear hl hbx hbu hball hE
  clear HTP HSP HXP HBP
  have HTP := HTN
  have HSP := HSN
  have HXP := HXN
  have HBP := HBN
  clear HTN HSN HXN HBN
  go_wp2_with fail
  rw [HE13.out]
  refine (yesH (alike_any (h := twoH) (k := twoH) (lo := 0) (hi := X13.heap.size) HTP.out (vls_up HL12.out HB13.out) HTP.out HL13.out (Nat.le_refl _) two_good two_good (ones_good (n := 1) (by decide) (by decide)) (ones_good (n := 2) (by decide) (by decide)) (by decide) (by decide)) ex_two).mono ?_
  rintro e X14 ⟨rfl, hb⟩
  have HTN := Lib.hid (obs_up HTP.out (hb))
  have HSN := Lib.hid (obs_up HSP.out (hb))
  have HXN := Lib.hid (HXP.out.trans ((hb).mono HXP.out.size))
  have HBN := Lib.hid (HBP.out.trans ((hb).mono HBP.out.size))
  clear hb
  clear HTP HSP HXP HBP
  have HTP := HTN
  have HSP := HSN
  have HXP := HXN
  have HBP := HBN
  clear HTN HSN HXN HBN
  obtain ⟨_, a0, a1, _, _, _⟩ := box2 HOX8.out HBP.out
  obtain ⟨_, c0, c1, _, _, _⟩ := box2 HOY.out HBP.out
  clear x0 x1 y0 y1
  go_wp2_with fail
  rw [show ({ data := #[80] } : ByteArray) = ⟨wP.toArray⟩ from rfl]
  refine (nought_any X14 wP).mono ?_
  rintro e z1 ⟨rfl, hz1⟩
  have HZ1 := Lib.hid (HXP.out.trans (hz1.mono HXP.out.size))
  rw [show noughtV wP = ⟨wRef, 0⟩ from by unfold noughtV; rw [if_neg (by decide), if_neg (by decide)]]
  clear hz1
  go_wp2_with fail
  refine (to_any z1 0).mono ?_
  rintro e z2 ⟨rfl, hz2⟩
  have HZ2 := Lib.hid (HZ1.out.trans (hz2.mono HZ1.out.size))
  clear hz2
  go_wp2_with fail
  rw [show ({ data := #[102, 108, 111, 97, 116] } : ByteArray) = ⟨wFloat.toArray⟩ from rfl]
  refine (nought_any z2 wFloat).mono ?_
  rintro e z3 ⟨rfl, hz3⟩
  have HZ3 := Lib.hid (HZ2.out.trans (hz3.mono HZ2.out.size))
  rw [show noughtV wFloat = ⟨wFloat, 0⟩ from rfl]
  clear hz3
  go_wp2_with fail
  go_ret
  exact ⟨rfl, HZ3.out⟩
end Go.Proofs.Ytclikfeaodfmkaa.L15
