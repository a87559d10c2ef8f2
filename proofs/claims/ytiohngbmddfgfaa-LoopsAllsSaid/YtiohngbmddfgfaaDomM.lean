/-
  Layer 10: package dom walked: two ways up until they meet, and those of a list.
-/
import Derived.Test.YtiohngbmddfgfaaDomJ
import Derived.Deep.RegionHeld3
namespace Go.Proofs.Ytiohngbmddfgfaa.Dm10
open Go.RowKit Api Mem Fl9

/-- a tree in memory: its three rows, each in a block of its own, and its own cells. -/
structure TO (w : World) (base bn bp bg bt n : Nat) (near place gone : List Int) (turn : Int) : Prop where
  on : Own w bn 3 (iC near)
  op : Own w bp 3 (iC place)
  og : Own w bg 3 (iC gone)
  ot : Own w bt 70 [.slice (some ⟨bn, 0, none⟩) n n, .slice (some ⟨bp, 0, none⟩) n n, .slice (some ⟨bg, 0, none⟩) n n, i64 turn]
  ln : near.length = n
  lp : place.length = n
  lg : gone.length = n
  np : bn ≠ bp
  ng : bn ≠ bg
  pg : bp ≠ bg
  nt : bn ≠ bt
  pt : bp ≠ bt
  gt : bg ≠ bt
  base_n : base ≤ bn
  base_p : base ≤ bp
  base_g : base ≤ bg
  base_t : base ≤ bt
section
variable {w w' : World} {base bn bp bg bt n : Nat} {near place gone : List Int} {turn : Int}
theorem TO.below (h : TO w base bn bp bg bt n near place gone turn) (hb : Below w.heap.size w w') : TO w' base bn bp bg bt n near place gone turn :=
  { h with on := h.on.below hb h.on.lt, op := h.op.below hb h.op.lt, og := h.og.below hb h.og.lt, ot := h.ot.below hb h.ot.lt }
theorem TO.drew (h : TO w base bn bp bg bt n near place gone turn) : TO w.drew base bn bp bg bt n near place gone turn := { h with on := h.on.drew, op := h.op.drew, og := h.og.drew, ot := h.ot.drew }
theorem own_other {t : TypeId} {b : Nat} {cs : List Value} (h : Own w b t cs) {k : Nat} (i : Nat) (u : Value) (hk : b ≠ k) : Own (w.setCell ⟨k, i, none⟩ u) b t cs := (Below.heap_setCell _ _ _ _ hk).trans h
theorem iC_set (l : List Int) (k : Nat) (x : Int) : (iC l).set k (i64 x) = iC (l.set k x) := by simp [iC, List.map_set]
theorem TO.putNear (h : TO w base bn bp bg bt n near place gone turn) (k : Nat) (x : Int) : TO (w.setCell ⟨bn, k, none⟩ (i64 x)) base bn bp bg bt n (near.set k x) place gone turn :=
  { h with on := by rw [← iC_set]; exact h.on.store k (i64 x), op := own_other h.op _ _ (Ne.symm h.np), og := own_other h.og _ _ (Ne.symm h.ng), ot := own_other h.ot _ _ (Ne.symm h.nt), ln := by rw [List.length_set]; exact h.ln }
theorem TO.putPlace (h : TO w base bn bp bg bt n near place gone turn) (k : Nat) (x : Int) : TO (w.setCell ⟨bp, k, none⟩ (i64 x)) base bn bp bg bt n near (place.set k x) gone turn :=
  { h with op := by rw [← iC_set]; exact h.op.store k (i64 x), on := own_other h.on _ _ h.np, og := own_other h.og _ _ (Ne.symm h.pg), ot := own_other h.ot _ _ (Ne.symm h.pt), lp := by rw [List.length_set]; exact h.lp }
theorem TO.putGone (h : TO w base bn bp bg bt n near place gone turn) (k : Nat) (x : Int) : TO (w.setCell ⟨bg, k, none⟩ (i64 x)) base bn bp bg bt n near place (gone.set k x) turn :=
  { h with og := by rw [← iC_set]; exact h.og.store k (i64 x), on := own_other h.on _ _ h.ng, op := own_other h.op _ _ h.pg, ot := own_other h.ot _ _ (Ne.symm h.gt), lg := by rw [List.length_set]; exact h.lg }
theorem TO.putTurn (h : TO w base bn bp bg bt n near place gone turn) (x : Int) : TO (w.setCell ⟨bt, 3, none⟩ (i64 x)) base bn bp bg bt n near place gone x :=
  { h with ot := by simpa using h.ot.store 3 (i64 x), on := own_other h.on _ _ h.nt, op := own_other h.op _ _ h.pt, og := own_other h.og _ _ h.gt }
theorem own_at {b : Nat} {l : List Int} (h : Own w b 3 (iC l)) {k : Nat} {x : Int} (hx : l[k]? = some x) : w.cell? ⟨b, k, none⟩ = some (i64 x) := (h.cell k).trans (by rw [List.getElem?_map, hx]; rfl)
end
/-- what 'known' tells. -/
def knB (k : Nat) (y : Int) : Bool := decide (k = 0 ∨ y ≠ -1)
set_option maxRecDepth 100000 in
set_option maxHeartbeats 8000000 in
theorem known_any (w : World) (b o n c k : Nat) (hk : k < n) (hn : n ≤ 1000) (y : Int) (hy : w.cell? ⟨b, o + k, none⟩ = some (i64 y)) :
    Calls Try.prog 49 #[.slice (some ⟨b, o, none⟩) n c, i64 (k : Int)] w fun e w' => e = .returned (.bool (knB k y)) ∧ w = w' := by
  have _ := hn
  by_cases h0 : k = 0
  · subst h0
    have HE := Lib.hid (show knB 0 y = true by simp [knB])
    go_enter Try.func49, Try.ntmps49
    go_wp2_with fail
    go_ret
    exact ⟨by rw [HE.out]; rfl, rfl⟩
  · have e0 : ((k : Int) == 0) = false := by rw [beq_eq_false_iff_ne]; omega
    have HE := Lib.hid (show knB k y = (y != -1) by
      unfold knB
      by_cases e : y = -1
      · subst e; simp [h0]
      · rw [decide_eq_true (.inr e)]; simpa using e)
    clear h0
    go_enter Try.func49, Try.ntmps49
    go_wp2_with fail
    go_ret
    exact ⟨by rw [HE.out]; rfl, rfl⟩
set_option maxRecDepth 100000 in
set_option maxHeartbeats 8000000 in
theorem point10_any (w : World) (A : Option Addr) (n cap : Nat) (_ : n ≤ 4611686018427387903) (x : Int) :
    Calls Try.prog 43 #[.slice A n cap, i64 x] w fun e w' => e = .returned (.bool (decide (0 ≤ x ∧ x < (n : Int)))) ∧ w = w' := by
  by_cases h1 : 0 ≤ x
  · by_cases h2 : x < (n : Int)
    · have e1 : decide ((0 : Int) ≤ x) = true := decide_eq_true h1
      have e2 : decide (x < (n : Int)) = true := decide_eq_true h2
      have e3 : decide (0 ≤ x ∧ x < (n : Int)) = true := decide_eq_true ⟨h1, h2⟩
      rw [e3]
      clear h1 h2 e3
      go_enter Try.func43, Try.ntmps43
      go_wp2_with fail
      go_ret
      exact ⟨rfl, rfl⟩
    · have e1 : decide ((0 : Int) ≤ x) = true := decide_eq_true h1
      have e2 : decide (x < (n : Int)) = false := decide_eq_false h2
      have e3 : decide (0 ≤ x ∧ x < (n : Int)) = false := decide_eq_false (fun h => h2 h.2)
      rw [e3]
      clear h1 h2 e3
      go_enter Try.func43, Try.ntmps43
      go_wp2_with fail
      go_ret
      exact ⟨rfl, rfl⟩
  · have e1 : decide ((0 : Int) ≤ x) = false := decide_eq_false h1
    have e3 : decide (0 ≤ x ∧ x < (n : Int)) = false := decide_eq_false (fun h => h1 h.1)
    rw [e3]
    clear h1 e3
    go_enter Try.func43, Try.ntmps43
    go_wp2_with fail
    go_ret
    exact ⟨rfl, rfl⟩
abbrev tptr (b : Nat) : Value := .pointer (some ⟨b, 0, none⟩)
/-- what 'up' does. -/
def UpP (w : World) (base bn bp bg bt n : Nat) (near place gone : List Int) (turn : Int) (k : Nat) (y : Int) (e : Ending) (w' : World) : Prop :=
  e = .returned (i64 y) ∧ TO w' base bn bp bg bt n near place (gone.set k turn) turn ∧ Below base w w'
set_option maxRecDepth 100000 in
set_option maxHeartbeats 8000000 in
theorem up_any (w : World) (base bn bp bg bt n : Nat) (near place gone : List Int) (turn : Int) (h : TO w base bn bp bg bt n near place gone turn) (hn : n ≤ 1000) (k : Nat) (hk : k < n) (y : Int) (hy : near[k]? = some y) :
    Calls Try.prog 64 #[tptr bt, i64 (k : Int)] w (UpP w base bn bp bg bt n near place gone turn k y) := by
  have _ := hn
  have c0 := h.ot.cell 0
  have c1 := h.ot.cell 1
  have c2 := h.ot.cell 2
  have c3 := h.ot.cell 3
  simp only [List.getElem?_cons_zero, List.getElem?_cons_succ] at c0 c1 c2 c3
  have h2 := h.putGone k turn
  have H2 := Lib.hid h2
  have d0 := h2.ot.cell 0
  simp only [List.getElem?_cons_zero] at d0
  have d4 := own_at h2.on hy
  obtain ⟨z, hz⟩ : ∃ z, gone[k]? = some z := ⟨_, List.getElem?_eq_getElem (by rw [h.lg]; exact hk)⟩
  have c5 := own_at h.og hz
  have t5 := h.og.thaw k
  have HB := Lib.hid ((Below.refl base w).setCell (p := ⟨bg, k, none⟩) h.base_g (i64 turn))
  clear h h2 hy hz
  go_enter Try.func64, Try.ntmps64
  go_wp2_with fail
  go_region
  go_wp2_with fail
  go_ret
  exact ⟨rfl, H2.out.drew, HB.out.drew⟩
/-- two ways up, so far. -/
structure Two (g : List (List Int)) (near gone : List Int) (turn : Int) (p q x y : Nat) : Prop where
  cx : Come g x
  kx : Kn near x
  cy : Come g y
  ky : Kn near y
  ax : Anc near x p
  ay : Anc near y q
  com : ∀ a, Anc near a p → Anc near a q → Anc near a x ∧ Anc near a y
  mark : ∀ k : Nat, gone[k]? = some turn → Anc near p k ∨ (pos g y < pos g k ∧ (Anc near x k ∨ Anc near y k))
/-- where they meet. -/
structure Met (near gone : List Int) (turn : Int) (p q r : Nat) : Prop where
  ar : Anc near r p
  aq : Anc near r q
  com : ∀ a, Anc near a p → Anc near a q → Anc near a r
  mark : ∀ k : Nat, gone[k]? = some turn → Anc near r k
theorem Two.start {g : List (List Int)} {near gone : List Int} {turn : Int} {p q : Nat} (cp : Come g p) (kp : Kn near p) (cq : Come g q) (kq : Kn near q) (hm : ∀ k : Nat, gone[k]? = some turn → Anc near p k) : Two g near gone turn p q p q :=
  ⟨cp, kp, cq, kq, .refl, .refl, fun _ h k => ⟨h, k⟩, fun k h => .inl (hm k h)⟩
theorem Two.same {g : List (List Int)} {near gone : List Int} {turn : Int} {p q x : Nat} (h : Two g near gone turn p q x x) : Met near gone turn p q x := by
  refine ⟨h.ax, h.ay, fun a h1 h2 => (h.com a h1 h2).1, fun k hk => ?_⟩
  rcases h.mark k hk with h1 | ⟨_, h1 | h1⟩
  · exact h.ax.trans h1
  · exact h1
  · exact h1
theorem Two.early {g : List (List Int)} {near gone : List Int} {turn : Int} {p q x y : Nat} (h : Two g near gone turn p q x y) (hy : gone[y]? = some turn) : Met near gone turn p q x := by
  have hpy : Anc near p y := by
    rcases h.mark y hy with h1 | ⟨h1, _⟩
    · exact h1
    · omega
  refine ⟨h.ax, (h.ax.trans hpy).trans h.ay, fun a h1 h2 => (h.com a h1 h2).1, fun k hk => ?_⟩
  rcases h.mark k hk with h1 | ⟨_, h1 | h1⟩
  · exact h.ax.trans h1
  · exact h1
  · exact (h.ax.trans hpy).trans h1
theorem anc_next {near : List Int} {a x c : Nat} (h : Anc near a x) (hne : a ≠ x) (e : near[x]? = some (c : Int)) : Anc near a c := by
  cases h with
  | refl => exact absurd rfl hne
  | up e2 h2 =>
    rw [e] at e2
    simp only [Option.some.injEq] at e2
    rename_i c2
    obtain rfl : c = c2 := by omega
    exact h2
theorem gone_put {gone : List Int} {turn : Int} {k x : Nat} (h : (gone.set x turn)[k]? = some turn) : k = x ∨ gone[k]? = some turn := by
  by_cases e : x = k
  · exact .inl e.symm
  · rw [List.getElem?_set_ne e] at h; exact .inr h
theorem Two.left {g : List (List Int)} {near gone : List Int} {turn : Int} {p q x y c i N : Nat} (hs : St g near i N) (h : Two g near gone turn p q x y) (hl : pos g y < pos g x) (e : near[x]? = some (c : Int)) : Two g near (gone.set x turn) turn p q c y := by
  have ha := hs.at9 e
  refine ⟨ha.2.2.1, ha.2.2.2, h.cy, h.ky, (Anc.up e .refl).trans h.ax, h.ay, fun a h1 h2 => ?_, fun k hk => ?_⟩
  · obtain ⟨h3, h4⟩ := h.com a h1 h2
    refine ⟨anc_next h3 (fun e2 => ?_) e, h4⟩
    subst e2
    have := hs.ups.le h4
    omega
  · rcases gone_put hk with e2 | e2
    · subst e2
      exact .inr ⟨hl, .inl (.up e .refl)⟩
    · rcases h.mark k e2 with h1 | ⟨h1, h2 | h2⟩
      · exact .inl h1
      · exact .inr ⟨h1, .inl ((Anc.up e .refl).trans h2)⟩
      · exact .inr ⟨h1, .inr h2⟩
theorem Two.right {g : List (List Int)} {near gone : List Int} {turn : Int} {p q x y c i N : Nat} (hs : St g near i N) (h : Two g near gone turn p q x y) (hl : pos g x < pos g y) (e : near[y]? = some (c : Int)) : Two g near (gone.set y turn) turn p q x c := by
  have ha := hs.at9 e
  have hlt := hs.ups.lt y c ha.1 e
  refine ⟨h.cx, h.kx, ha.2.2.1, ha.2.2.2, h.ax, (Anc.up e .refl).trans h.ay, fun a h1 h2 => ?_, fun k hk => ?_⟩
  · obtain ⟨h3, h4⟩ := h.com a h1 h2
    refine ⟨h3, anc_next h4 (fun e2 => ?_) e⟩
    subst e2
    have := hs.ups.le h3
    omega
  · rcases gone_put hk with e2 | e2
    · subst e2
      exact .inr ⟨hlt, .inr (.up e .refl)⟩
    · rcases h.mark k e2 with h1 | ⟨h1, h2 | h2⟩
      · exact .inl h1
      · exact .inr ⟨by omega, .inl h2⟩
      · exact .inr ⟨by omega, .inr ((Anc.up e .refl).trans h2)⟩
/-- who isn't the point 0 has one above. -/
theorem St.next {g : List (List Int)} {near : List Int} {i N x y : Nat} (hs : St g near i N) (hk : Kn near x) (hl : pos g y < pos g x) : ∃ c : Nat, near[x]? = some (c : Int) ∧ pos g c < pos g x := by
  rcases hk with rfl | ⟨c, e⟩
  · by_cases h0 : 0 < g.length
    · rw [pos_zero h0] at hl; omega
    · obtain rfl := List.eq_nil_of_length_eq_zero (by omega : g.length = 0)
      simp [pos, orderV] at hl
  · exact ⟨c, e, hs.ups.lt x c (hs.at9 e).1 e⟩
/-- what 'meet' does. -/
def MeetP (g : List (List Int)) (w : World) (base bn bp bg bt n : Nat) (near place : List Int) (turn : Int) (p q : Nat) (e : Ending) (w' : World) : Prop :=
  ∃ (r : Nat) (gone : List Int), e = .returned (i64 (r : Int)) ∧ TO w' base bn bp bg bt n near place gone turn ∧ Below base w w' ∧ Met near gone turn p q r ∧ Come g r ∧ Kn near r ∧ ∀ (k : Nat) (v : Int), gone[k]? = some v → v ≤ turn
theorem gone_le {gone : List Int} {turn : Int} (h : ∀ (k : Nat) (v : Int), gone[k]? = some v → v ≤ turn) (x : Nat) : ∀ (k : Nat) (v : Int), (gone.set x turn)[k]? = some v → v ≤ turn := by
  intro k v hk
  rw [List.getElem?_set] at hk
  split at hk
  · split at hk
    · simp only [Option.some.injEq] at hk; omega
    · cases hk
  · exact h k v hk
set_option maxRecDepth 100000 in
set_option maxHeartbeats 8000000 in
theorem meet_any (g : List (List Int)) (w : World) (base bn bp bg bt n : Nat) (near place gone : List Int) (turn : Int) (i N : Nat) (hs : St g near i N) (h : TO w base bn bp bg bt n near place gone turn) (hn : n ≤ 1000) (hgn : g.length = n)
    (hpl : ∀ q, Come g q → place[q]? = some (pos g q : Int)) (hle : ∀ (k : Nat) (v : Int), gone[k]? = some v → v ≤ turn) (p q : Nat) (cp : Come g p) (kp : Kn near p) (cq : Come g q) (kq : Kn near q) (hm : ∀ k : Nat, gone[k]? = some turn → Anc near p k) :
    Calls Try.prog 50 #[tptr bt, i64 (p : Int), i64 (q : Int)] w (MeetP g w base bn bp bg bt n near place turn p q) := by
  have HS := Lib.hid hs
  have HT := Lib.hid (Two.start (g := g) cp kp cq kq hm)
  have HO := Lib.hid h
  have HL := Lib.hid hle
  have HPL := Lib.hid hpl
  clear hs h hle hpl hm cp kp cq kq
  go_enter Try.func50, Try.ntmps50
  go_wp2_with fail
  go_loopw [1, 2] (fun va vb wr => ∃ (x y : Nat) (gone : List Int), va = .int .i64 x ∧ vb = .int .i64 y ∧ Hid (Two g near gone turn p q x y) ∧ Hid (TO wr base bn bp bg bt n near place gone turn) ∧ Hid (∀ (k : Nat) (v : Int), gone[k]? = some v → v ≤ turn) ∧ Hid (Below base w wr)) (fun va vb _ => pos g (intOf va).toNat + pos g (intOf vb).toNat)
  case atStart => exact ⟨p, q, gone, rfl, rfl, HT, HO, HL, Lib.hid (Below.refl _ _)⟩
  case round =>
  obtain ⟨x, y, gone, rfl, rfl, HT, HO, HL, HB⟩ := hrel
  by_cases hxy : x = y
  · subst hxy
    go_wp2_with fail
    go_ret
    exact ⟨x, gone, rfl, HO.out, HB.out, HT.out.same, HT.out.cx, HT.out.kx, HL.out⟩
  · have t0 : ((x : Int) == (y : Int)) = false := by rw [beq_eq_false_iff_ne]; omega
    have t0n : ((x : Int) != (y : Int)) = true := by rw [bne, t0]; rfl
    have t0d : decide (x = y) = false := decide_eq_false hxy
    have h := HO.out
    have c0 := h.ot.cell 0
    have c1 := h.ot.cell 1
    have c2 := h.ot.cell 2
    have c3 := h.ot.cell 3
    simp only [List.getElem?_cons_zero, List.getElem?_cons_succ] at c0 c1 c2 c3
    have c4 := own_at h.op (HPL.out x HT.out.cx)
    have c5 := own_at h.op (HPL.out y HT.out.cy)
    have hxl : x < n := by have := HT.out.cx.last.1; omega
    have hyl : y < n := by have := HT.out.cy.last.1; omega
    obtain ⟨z, hz⟩ : ∃ z, gone[y]? = some z := ⟨_, List.getElem?_eq_getElem (by rw [h.lg]; exact hyl)⟩
    have c6 := own_at h.og hz
    have HZ := Lib.hid hz
    have hpne : pos g x ≠ pos g y := fun e => hxy (pos_inj HT.out.cx HT.out.cy e)
    obtain ⟨a, ha⟩ : ∃ a, pos g x = a := ⟨_, rfl⟩
    obtain ⟨b, hb⟩ : ∃ b, pos g y = b := ⟨_, rfl⟩
    rw [ha] at c4 hpne
    rw [hb] at c5 hpne
    have HA := Lib.hid ha
    have HBB := Lib.hid hb
    clear hz hxy h ha hb
    by_cases hlt : b < a
    · obtain ⟨c, hc, hcl⟩ := HS.out.next HT.out.kx (y := y) (by rw [HA.out, HBB.out]; exact hlt)
      have e1 : decide ((b : Int) < (a : Int)) = true := decide_eq_true (by omega)
      have e2 : decide (b < a) = true := decide_eq_true hlt
      have QU := Lib.hid (up_any wr.drew base bn bp bg bt n near place gone turn HO.out.drew hn x hxl _ hc)
      have HT2 := Lib.hid (HT.out.left HS.out (by rw [HA.out, HBB.out]; exact hlt) hc)
      have HCL := Lib.hid hcl
      clear hc hcl hlt
      go_wp2_with fail
      go_region
      go_wp2_with fail
      refine QU.out.mono ?_
      rintro e w6 ⟨rfl, h6, hb6⟩
      have HO6 := Lib.hid h6
      have HB6 := Lib.hid (HB.out.drew.trans hb6)
      clear h6 hb6
      go_wp2_with fail
      go_roundw
      case rel => exact ⟨c, y, _, rfl, rfl, HT2, HO6, Lib.hid (gone_le HL.out x), HB6⟩
      case measure => have := HCL.out; simp [intOf]; omega
    · have hgt : a < b := by omega
      have e1 : decide ((b : Int) < (a : Int)) = false := decide_eq_false (by omega)
      have e2 : decide (b < a) = false := decide_eq_false hlt
      clear hlt
      by_cases hzt : z = turn
      · have e3 : (z == turn) = true := by simpa using hzt
        have HMT := Lib.hid (HT.out.early (by rw [HZ.out, hzt]))
        clear hzt
        go_wp2_with fail
        go_region
        go_wp2_with fail
        go_region
        go_wp2_with fail
        go_ret
        exact ⟨x, gone, rfl, HO.out.drew.drew, HB.out.drew.drew, HMT.out, HT.out.cx, HT.out.kx, HL.out⟩
      · have e3 : (z == turn) = false := by simpa using hzt
        obtain ⟨c, hc, hcl⟩ := HS.out.next HT.out.ky (y := x) (by rw [HA.out, HBB.out]; exact hgt)
        have QU := Lib.hid (up_any wr.drew.drew base bn bp bg bt n near place gone turn HO.out.drew.drew hn y hyl _ hc)
        have HT2 := Lib.hid (HT.out.right HS.out (by rw [HA.out, HBB.out]; exact hgt) hc)
        have HCL := Lib.hid hcl
        clear hc hcl hzt
        go_wp2_with fail
        go_region
        go_wp2_with fail
        go_region
        go_wp2_with fail
        refine QU.out.mono ?_
        rintro e w6 ⟨rfl, h6, hb6⟩
        have HO6 := Lib.hid h6
        have HB6 := Lib.hid (HB.out.drew.drew.trans hb6)
        clear h6 hb6
        go_wp2_with fail
        go_roundw
        case rel => exact ⟨x, c, _, rfl, rfl, HT2, HO6, Lib.hid (gone_le HL.out y), HB6⟩
        case measure => have := HCL.out; simp [intOf]; omega
/-- of the known ones among those of a list: a point above all of them. -/
def Of9 (near : List Int) (l : List Int) (p : Nat) : Prop := (p : Int) ∈ l ∧ Kn near p
structure AllI (g : List (List Int)) (near gone : List Int) (turn : Int) (l : List Int) (r : Int) : Prop where
  non : r = -1 → (∀ p, ¬ Of9 near l p) ∧ ∀ k : Nat, gone[k]? ≠ some turn
  som : ∀ q : Nat, r = (q : Int) → Top near (Of9 near l) q ∧ Come g q ∧ Kn near q ∧ ∀ k : Nat, gone[k]? = some turn → Anc near q k
  one : r = -1 ∨ ∃ q : Nat, r = (q : Int)
theorem of_snoc {near l : List Int} {x p : Nat} : Of9 near (l ++ [(x : Int)]) p ↔ Of9 near l p ∨ (p = x ∧ Kn near p) := by
  unfold Of9
  rw [List.mem_append, List.mem_singleton]
  constructor
  · rintro ⟨h | h, k⟩
    · exact .inl ⟨h, k⟩
    · exact .inr ⟨by omega, k⟩
  · rintro (⟨h, k⟩ | ⟨rfl, k⟩)
    · exact ⟨.inl h, k⟩
    · exact ⟨.inr rfl, k⟩
theorem AllI.skip {g : List (List Int)} {near gone : List Int} {turn : Int} {l : List Int} {r : Int} (h : AllI g near gone turn l r) {x : Nat} (hx : ¬ Kn near x) : AllI g near gone turn (l ++ [(x : Int)]) r := by
  have e : Of9 near (l ++ [(x : Int)]) = Of9 near l := by
    funext p
    exact propext (of_snoc.trans ⟨fun h => h.elim id (fun ⟨e, k⟩ => absurd (e ▸ k) hx), .inl⟩)
  exact ⟨fun hr => by rw [e]; exact h.non hr, fun q hq => by rw [e]; exact h.som q hq, h.one⟩
theorem AllI.first {g : List (List Int)} {near gone : List Int} {turn : Int} {l : List Int} (h : AllI g near gone turn l (-1)) {x : Nat} (hx : Kn near x) (hc : Come g x) : AllI g near gone turn (l ++ [(x : Int)]) (x : Int) := by
  obtain ⟨h1, h2⟩ := h.non rfl
  refine ⟨fun hr => by omega, fun q hq => ?_, .inr ⟨x, rfl⟩⟩
  obtain rfl : x = q := by omega
  refine ⟨⟨fun p hp => ?_, fun a ha => ha x (of_snoc.2 (.inr ⟨rfl, hx⟩))⟩, hc, hx, fun k hk => absurd hk (h2 k)⟩
  rcases of_snoc.1 hp with hp | ⟨rfl, _⟩
  · exact absurd hp (h1 p)
  · exact .refl
theorem AllI.meet {g : List (List Int)} {near gone gone2 : List Int} {turn : Int} {l : List Int} {q x r : Nat} (h : AllI g near gone turn l (q : Int)) (hx : Kn near x) (hm : Met near gone2 turn q x r) (cr : Come g r) (kr : Kn near r) : AllI g near gone2 turn (l ++ [(x : Int)]) (r : Int) := by
  obtain ⟨h1, h2, h3, h4⟩ := h.som q rfl
  refine ⟨fun hr => by omega, fun r' hr' => ?_, .inr ⟨r, rfl⟩⟩
  obtain rfl : r = r' := by omega
  refine ⟨⟨fun p hp => ?_, fun a ha => hm.com a (h1.2 a fun p hp => ha p (of_snoc.2 (.inl hp))) (ha x (of_snoc.2 (.inr ⟨rfl, hx⟩)))⟩, cr, kr, hm.mark⟩
  rcases of_snoc.1 hp with hp | ⟨rfl, _⟩
  · exact hm.ar.trans (h1.1 p hp)
  · exact hm.aq
theorem kn_iff {g : List (List Int)} {near : List Int} {i N k : Nat} {y : Int} (h : St g near i N) (hy : near[k]? = some y) : knB k y = true ↔ Kn near k := by
  unfold knB Kn
  rw [decide_eq_true_iff, hy]
  constructor
  · rintro (h1 | h1)
    · exact .inl h1
    · rcases h.val k y hy with h2 | ⟨c, h2, _⟩
      · exact absurd h2 h1
      · exact .inr ⟨c, by rw [h2]⟩
  · rintro (h1 | ⟨c, h1⟩)
    · exact .inl h1
    · simp only [Option.some.injEq] at h1
      exact .inr (by omega)
/-- what 'meetAll' does. -/
def MeetAllP (g : List (List Int)) (w : World) (base bn bp bg bt n : Nat) (near place : List Int) (turn : Int) (l : List Int) (e : Ending) (w' : World) : Prop :=
  ∃ (r : Int) (gone : List Int), e = .returned (i64 r) ∧ TO w' base bn bp bg bt n near place gone turn ∧ Below base w w' ∧ AllI g near gone turn l r ∧ ∀ (k : Nat) (v : Int), gone[k]? = some v → v ≤ turn
set_option maxRecDepth 100000 in
set_option maxHeartbeats 8000000 in
theorem meetAll_any (g : List (List Int)) (w : World) (base bn bp bg bt n : Nat) (near place gone : List Int) (turn : Int) (i N : Nat) (hs : St g near i N) (h : TO w base bn bp bg bt n near place gone turn) (hn : n ≤ 1000) (hgn : g.length = n)
    (hpl : ∀ q, Come g q → place[q]? = some (pos g q : Int)) (hle : ∀ (k : Nat) (v : Int), gone[k]? = some v → v ≤ turn) (ht0 : 0 ≤ turn) (ht : turn ≤ 4000000000)
    (lo hi : Nat) (v : Value) (l : List Int) (hl : Ints lo hi w v l) (hh : hi ≤ base) (hlp : ∀ x ∈ l, ∃ p : Nat, x = (p : Int) ∧ p < n) :
    Calls Try.prog 42 #[tptr bt, v] w (MeetAllP g w base bn bp bg bt n near place (turn + 1) l) := by
  obtain ⟨A1, k1, rfl⟩ := Row.form hl
  have hll : l.length ≤ 4611686018427387903 := by obtain ⟨_, _, _, h, _⟩ := Row.get hl; exact h
  have HS := Lib.hid hs
  have HPL := Lib.hid hpl
  have c3 := h.ot.cell 3
  simp only [List.getElem?_cons_zero, List.getElem?_cons_succ] at c3
  have t3 := h.ot.thaw 3
  have HO := Lib.hid (h.putTurn (turn + 1))
  have HB := Lib.hid ((Below.refl base w).setCell (p := ⟨bt, 3, none⟩) h.base_t (i64 (turn + 1)))
  have HI := Lib.hid (show AllI g near gone (turn + 1) (l.take 0) (-1) from ⟨fun _ => ⟨fun p hp => by have := hp.1; simp at this, fun k hk => by have := hle k _ hk; omega⟩, fun q hq => by omega, .inl rfl⟩)
  have HLE := Lib.hid (show ∀ (k : Nat) (v : Int), gone[k]? = some v → v ≤ turn + 1 from fun k v hk => by have := hle k v hk; omega)
  have HLI := Lib.hid hl
  have HLP := Lib.hid hlp
  clear hs hpl h hle hl hlp
  go_enter Try.func42, Try.ntmps42
  go_wp2_with fail
  go_loopw [5, 17] (fun va vj wr => ∃ (j : Nat) (r : Int) (gone : List Int), j ≤ l.length ∧ vj = .int .i64 j ∧ va = .int .i64 r ∧ Hid (AllI g near gone (turn + 1) (l.take j) r) ∧ Hid (TO wr base bn bp bg bt n near place gone (turn + 1)) ∧ Hid (∀ (k : Nat) (v : Int), gone[k]? = some v → v ≤ turn + 1) ∧ Hid (Below base w wr)) (fun _ vj _ => l.length - (intOf vj).toNat)
  case atStart => exact ⟨0, -1, gone, Nat.zero_le _, rfl, rfl, HI, HO, HLE, HB⟩
  case round =>
  obtain ⟨j, r, gone, hj, rfl, rfl, HI, HO, HLE, HB⟩ := hrel
  by_cases hlt : j < l.length
  · obtain ⟨x, hx⟩ : ∃ x, l[j]? = some x := ⟨_, List.getElem?_eq_getElem hlt⟩
    obtain ⟨b1, o1, rfl⟩ := addr_of9 HLI.out (by omega)
    obtain ⟨cs, _, rfl, n1⟩ := cell_of HLI.out hx (HB.out.mono hh)
    have m1 := n1 _ rfl
    obtain ⟨p, rfl, hpn⟩ := HLP.out x (List.mem_of_getElem? hx)
    have HNX := Lib.hid (take_nx hx)
    obtain ⟨y, hy⟩ : ∃ y, near[p]? = some y := ⟨_, List.getElem?_eq_getElem (by rw [HO.out.ln]; exact hpn)⟩
    have c0 := HO.out.ot.cell 0
    simp only [List.getElem?_cons_zero] at c0
    have QK := Lib.hid (known_any wr bn 0 n n p hpn hn y (by rw [Nat.zero_add]; exact own_at HO.out.on hy))
    have HKN := Lib.hid (kn_iff HS.out hy)
    clear n1 hx hy
    obtain ⟨kb, hkb⟩ : ∃ kb, knB p y = kb := ⟨_, rfl⟩
    rw [hkb] at QK HKN
    clear hkb
    cases kb with
    | false =>
      have HI2 := Lib.hid (HI.out.skip (x := p) (fun h => by cases HKN.out.2 h))
      rw [← HNX.out] at HI2
      go_wp2_with fail
      refine QK.out.mono ?_
      rintro e w6 ⟨rfl, rfl⟩
      go_wp2_with fail
      go_roundw
      case rel => exact ⟨j + 1, r, gone, by omega, by go_num, rfl, HI2, HO, HLE, HB⟩
      case measure => simp [intOf]; omega
    | true =>
      have hkp := HKN.out.1 rfl
      by_cases hr : r = -1
      · subst hr
        have HI2 := Lib.hid (HI.out.first (x := p) hkp (HS.out.come (q := 0) (Way.refl (by omega) trivial) hkp))
        rw [← HNX.out] at HI2
        clear hkp
        go_wp2_with fail
        refine QK.out.mono ?_
        rintro e w6 ⟨rfl, rfl⟩
        go_wp2_with fail
        go_roundw
        case rel => exact ⟨j + 1, p, gone, by omega, by go_num, rfl, HI2, HO, HLE, HB⟩
        case measure => simp [intOf]; omega
      · obtain ⟨q, rfl⟩ := HI.out.one.resolve_left hr
        have t0 : ((q : Int) == -1) = false := by rw [beq_eq_false_iff_ne]; omega
        obtain ⟨_, cq, kq, hmk⟩ := HI.out.som q rfl
        have cp : Come g p := HS.out.come cq hkp
        have QM := Lib.hid (meet_any g wr base bn bp bg bt n near place gone (turn + 1) i N HS.out HO.out hn hgn HPL.out HLE.out q p cq kq cp hkp hmk)
        have HKP := Lib.hid hkp
        clear hkp cq kq hmk cp hr
        go_wp2_with fail
        refine QK.out.mono ?_
        rintro e w6 ⟨rfl, rfl⟩
        go_wp2_with fail
        refine QM.out.mono ?_
        rintro e w7 ⟨r, gone7, rfl, h7, hb7, hm7, cr, kr, hle7⟩
        have HI7 := Lib.hid (HI.out.meet HKP.out hm7 cr kr)
        rw [← HNX.out] at HI7
        have HO7 := Lib.hid h7
        have HB7 := Lib.hid (HB.out.trans hb7)
        have HL7 := Lib.hid hle7
        clear h7 hb7 hm7 cr kr hle7
        go_wp2_with fail
        go_roundw
        case rel => exact ⟨j + 1, r, gone7, by omega, by go_num, rfl, HI7, HO7, HL7, HB7⟩
        case measure => simp [intOf]; omega
  · have hje : j = l.length := by omega
    rw [hje, List.take_of_length_le (Nat.le_refl _)] at HI
    clear hje
    go_wp2_with fail
    go_ret
    exact ⟨r, gone, rfl, HO.out, HB.out, HI.out, HLE.out⟩
end Go.Proofs.Ytiohngbmddfgfaa.Dm10
