/-
  Layer 12: what is known of blocks, in memory: their maps and rows, apart from one another.
-/
import Derived.Test.YtaeklfljibjpiaaLvRise
import Derived.Test.YtaeklfljibjpiaaHold
namespace Go.Proofs.Ytaeklfljibjpiaa.Lv12
open Go.RowKit Api Mem Sh8 Go.Maps

/-- block b is no cells of that type. -/
def NotT (w : World) (b : Nat) (e : TypeId) : Prop := ∀ cur p, w.heap[b]? ≠ some (.cells cur e p)
theorem notT_map {U : List Wd} {w : World} {g : Nat} {S : Wd → Bool} (h : SetO U w g S) (e : TypeId) : NotT w g e := by
  obtain ⟨⟨D, ⟨es, clock, h1, r⟩, h2⟩, h3⟩ := h
  intro cur p e1
  rw [h1] at e1
  cases e1
theorem notT_own {w : World} {b : Nat} {t e : TypeId} {cs : List Value} (h : Mem.Own w b t cs) (hne : t ≠ e) : NotT w b e := by
  intro cur p e1
  have h2 : w.heap[b]? = some (.cells cs.toArray t (0, 0)) := h
  rw [h2] at e1
  simp only [Option.some.injEq, Obj.cells.injEq] at e1
  exact hne e1.2.1
theorem notT_new {w : World} {b : Nat} (hb : w.heap.size ≤ b) (e : TypeId) : NotT w b e := by
  intro cur p e1
  rw [Array.getElem?_eq_none hb] at e1
  cases e1
theorem notT_row {w : World} {b base size n : Nat} {t e : TypeId} {v : Value} {xs : List Value} (h : w.ownsRow base t size v n xs) (hv : v.ownBlock = some b) (hne : t ≠ e) : NotT w b e := by
  intro cur p e1
  rcases h.2 with ⟨e9, _⟩ | ⟨g, cap, cur2, e9, _, hk, _⟩
  · rw [e9] at hv; cases hv
  · rw [e9] at hv
    cases hv
    rw [hk] at e1
    simp only [Option.some.injEq, Obj.cells.injEq] at e1
    exact hne e1.2.1
theorem row_other {w w' : World} {base size n b : Nat} {e : TypeId} {v : Value} {xs : List Value} (h : w.ownsRow base e size v n xs) (hg : w.grownBy w' (some b)) (hn : NotT w b e) : w'.ownsRow base e size v n xs := by
  refine World.ownsRow.kept h hg ?_
  cases hv : v.ownBlock with
  | none => exact .inl rfl
  | some k =>
    right
    intro e1
    simp only [Option.some.injEq] at e1
    subst e1
    rcases h.2 with ⟨e9, _⟩ | ⟨g, cap, cur, e9, _, hk, _⟩
    · rw [e9] at hv; cases hv
    · rw [e9] at hv
      cases hv
      exact hn _ _ hk
theorem row_others {w w' : World} {base size n : Nat} {row : Option Nat} {e : TypeId} {v : Value} {xs : List Value} (h : w.ownsRow base e size v n xs) (hg : w.grownBy w' row) (hn : ∀ b, row = some b → NotT w b e) : w'.ownsRow base e size v n xs := by
  cases row with
  | none =>
    refine World.ownsRow.kept h hg ?_
    cases hv : v.ownBlock <;> simp
  | some b => exact row_other h hg (hn b rfl)
theorem grown_cell (w : World) (a : Addr) (u : Value) : w.grownBy (w.setCell a u) (some a.block) := ⟨rfl, rfl, rfl, by simp, fun k _ hk => heap_setCell_other w a k u fun e => hk (by simp [e])⟩
/-- block b is cells, or not there yet. -/
def IsRow (w : World) (b : Nat) : Prop := w.heap.size ≤ b ∨ ∃ cur e p, w.heap[b]? = some (.cells cur e p)
theorem isRow_row {w : World} {b base size n : Nat} {t : TypeId} {v : Value} {xs : List Value} (h : w.ownsRow base t size v n xs) (hv : v.ownBlock = some b) : IsRow w b := by
  rcases h.2 with ⟨e9, _⟩ | ⟨g, cap, cur2, e9, _, hk, _⟩
  · rw [e9] at hv; cases hv
  · rw [e9] at hv
    cases hv
    exact .inr ⟨_, _, _, hk⟩
theorem isRow_own {w : World} {b : Nat} {t : TypeId} {cs : List Value} (h : Mem.Own w b t cs) : IsRow w b := .inr ⟨_, _, _, h⟩
theorem set_ne_row {U : List Wd} {w : World} {g b : Nat} {S : Wd → Bool} (h : SetO U w g S) (hb : IsRow w b) : g ≠ b := by
  intro e
  subst e
  rcases hb with hb | ⟨cur, e, p, hb⟩
  · have := h.lt; omega
  · exact notT_map h e cur p hb
def upd {α : Type} (f : Nat → α) (i : Nat) (a : α) (j : Nat) : α := if j = i then a else f j
theorem upd_at {α : Type} (f : Nat → α) (i : Nat) (a : α) : upd f i a i = a := if_pos rfl
theorem upd_ne {α : Type} (f : Nat → α) (a : α) {i j : Nat} (h : j ≠ i) : upd f i a j = f j := if_neg h
/-! ### maps -/
def OkM (n m x : Nat) : Prop := x / 4 < n ∧ (x % 4 = 3 → x / 4 < m)
structure MS (U : List Wd) (w : World) (n m : Nat) (c : Nat → Nat) (S : Nat → Wd → Bool) : Prop where
  set : ∀ x, OkM n m x → SetO U w (c x) (S x)
  inj : ∀ x y, OkM n m x → OkM n m y → c x = c y → x = y
section
variable {U : List Wd} {w w' : World} {n m : Nat} {c : Nat → Nat} {S : Nat → Wd → Bool}
theorem MS.put (h : MS U w n m c S) {x : Nat} (hx : OkM n m x) (hg : w.grownBy w' (some (c x))) {T : Wd → Bool} (hs : SetO U w' (c x) T) : MS U w' n m c (upd S x T) := by
  refine ⟨fun y hy => ?_, h.inj⟩
  by_cases e : y = x
  · subst e
    rw [upd_at]
    exact hs
  · rw [upd_ne _ _ e]
    exact (h.set y hy).grown hg fun e1 => e (h.inj y x hy hx (by simpa using e1))
theorem MS.row (h : MS U w n m c S) {row : Option Nat} (hg : w.grownBy w' row) (hr : ∀ b, row = some b → IsRow w b) : MS U w' n m c S :=
  ⟨fun y hy => (h.set y hy).grown hg fun e1 => set_ne_row (h.set y hy) (hr _ e1.symm) rfl, h.inj⟩
theorem MS.below (h : MS U w n m c S) (hb : Below w.heap.size w w') : MS U w' n m c S := ⟨fun y hy => (h.set y hy).below hb (h.set y hy).lt, h.inj⟩
theorem MS.same (h : MS U w n m c S) {c' : Nat → Nat} {S' : Nat → Wd → Bool} (hc : ∀ x, OkM n m x → c x = c' x) (hs : ∀ x, OkM n m x → S x = S' x) : MS U w n m c' S' :=
  ⟨fun y hy => by rw [← hc y hy, ← hs y hy]; exact h.set y hy, fun x y hx hy e => h.inj x y hx hy (by rw [hc x hx, hc y hy]; exact e)⟩
theorem MS.live (h : MS U w n m c S) (_hm : m < n) (hb : Below w.heap.size w w') {g : Nat} {T : Wd → Bool} (hg : w.heap.size ≤ g) (hs : SetO U w' g T) : MS U w' n (m + 1) (upd c (4 * m + 3) g) (upd S (4 * m + 3) T) := by
  have ok : ∀ y, OkM n (m + 1) y → y ≠ 4 * m + 3 → OkM n m y := fun y ⟨h1, h2⟩ hy => ⟨h1, fun h3 => by have := h2 h3; omega⟩
  refine ⟨fun y hy => ?_, fun x y hx hy e => ?_⟩
  · by_cases e : y = 4 * m + 3
    · subst e
      rw [upd_at, upd_at]
      exact hs
    · rw [upd_ne _ _ e, upd_ne _ _ e]
      exact (h.set y (ok y hy e)).below hb (h.set y (ok y hy e)).lt
  · by_cases ex : x = 4 * m + 3
    · subst ex
      by_cases ey : y = 4 * m + 3
      · exact ey.symm
      · rw [upd_at, upd_ne _ _ ey] at e
        have := (h.set y (ok y hy ey)).lt
        omega
    · by_cases ey : y = 4 * m + 3
      · subst ey
        rw [upd_at, upd_ne _ _ ex] at e
        have := (h.set x (ok x hx ex)).lt
        omega
      · rw [upd_ne _ _ ex, upd_ne _ _ ey] at e
        exact h.inj x y (ok x hx ex) (ok y hy ey) e
/-- three new maps. -/
theorem MS.three (h : MS U w n 0 c S) (hb : Below w.heap.size w w') {a b d : Nat} (hab : a ≠ b) (had : a ≠ d) (hbd : b ≠ d) (ga : w.heap.size ≤ a) (gb : w.heap.size ≤ b) (gd : w.heap.size ≤ d) {A B D : Wd → Bool} (ha : SetO U w' a A) (hb2 : SetO U w' b B) (hd : SetO U w' d D) :
    MS U w' (n + 1) 0 (upd (upd (upd c (4 * n) a) (4 * n + 1) b) (4 * n + 2) d) (upd (upd (upd S (4 * n) A) (4 * n + 1) B) (4 * n + 2) D) := by
  have ok : ∀ y, OkM (n + 1) 0 y → y ≠ 4 * n → y ≠ 4 * n + 1 → y ≠ 4 * n + 2 → OkM n 0 y := fun y ⟨h1, h2⟩ h3 h4 h5 => ⟨by have := fun h6 => h2 h6; omega, h2⟩
  have cas : ∀ y, OkM (n + 1) 0 y → (y = 4 * n ∧ upd (upd (upd c (4 * n) a) (4 * n + 1) b) (4 * n + 2) d y = a) ∨ (y = 4 * n + 1 ∧ upd (upd (upd c (4 * n) a) (4 * n + 1) b) (4 * n + 2) d y = b) ∨ (y = 4 * n + 2 ∧ upd (upd (upd c (4 * n) a) (4 * n + 1) b) (4 * n + 2) d y = d) ∨ (OkM n 0 y ∧ upd (upd (upd c (4 * n) a) (4 * n + 1) b) (4 * n + 2) d y = c y ∧ c y < w.heap.size) := by
    intro y hy
    by_cases e1 : y = 4 * n
    · left
      refine ⟨e1, ?_⟩
      rw [upd_ne _ _ (by omega), upd_ne _ _ (by omega), e1, upd_at]
    by_cases e2 : y = 4 * n + 1
    · right; left
      refine ⟨e2, ?_⟩
      rw [upd_ne _ _ (by omega), e2, upd_at]
    by_cases e3 : y = 4 * n + 2
    · right; right; left
      refine ⟨e3, ?_⟩
      rw [e3, upd_at]
    · right; right; right
      have hk := ok y hy e1 e2 e3
      refine ⟨hk, ?_, (h.set y hk).lt⟩
      rw [upd_ne _ _ e3, upd_ne _ _ e2, upd_ne _ _ e1]
  refine ⟨fun y hy => ?_, fun x y hx hy e => ?_⟩
  · rcases cas y hy with ⟨rfl, e⟩ | ⟨rfl, e⟩ | ⟨rfl, e⟩ | ⟨hk, e, hlt⟩
    · rw [e, upd_ne _ _ (by omega), upd_ne _ _ (by omega), upd_at]; exact ha
    · rw [e, upd_ne _ _ (by omega), upd_at]; exact hb2
    · rw [e, upd_at]; exact hd
    · have hh := h.set y hk
      have h1 := hk.1
      rw [e, upd_ne _ _ (by omega), upd_ne _ _ (by omega), upd_ne _ _ (by omega)]
      exact hh.below hb hh.lt
  · rcases cas x hx with ⟨e1, q1⟩ | ⟨e1, q1⟩ | ⟨e1, q1⟩ | ⟨k1, q1, l1⟩ <;> rcases cas y hy with ⟨e2, q2⟩ | ⟨e2, q2⟩ | ⟨e2, q2⟩ | ⟨k2, q2, l2⟩ <;> rw [q1, q2] at e <;> first | omega | exact h.inj x y k1 k2 e
end
/-! ### the blocks' own cells -/
def upd2 (F : Nat → Nat → Value) (i j : Nat) (u : Value) (a b : Nat) : Value := if a = i ∧ b = j then u else F a b
def OutC (w : World) (B n : Nat) (F : Nat → Nat → Value) : Prop := ∃ cs, Mem.Own w B 95 cs ∧ cs.length = n * 7 ∧ ∀ i j, i < n → j < 7 → cs[i * 7 + j]? = some (F i j)
section
variable {w w' : World} {B n : Nat} {F : Nat → Nat → Value}
theorem OutC.lt (h : OutC w B n F) : B < w.heap.size := by
  obtain ⟨cs, h1, _⟩ := h
  exact h1.lt
theorem OutC.cell (h : OutC w B n F) {i j : Nat} (hi : i < n) (hj : j < 7) : w.cell? ⟨B, i * 7 + j, none⟩ = some (F i j) := by
  obtain ⟨cs, h1, _, h2⟩ := h
  exact (h1.cell _).trans (h2 i j hi hj)
theorem OutC.thaw (h : OutC w B n F) (k : Nat) : w.frozen? ⟨B, k, none⟩ = false := by
  obtain ⟨cs, h1, _⟩ := h
  exact h1.thaw k
theorem OutC.store (h : OutC w B n F) {i j : Nat} (hj : j < 7) (u : Value) : OutC (w.setCell ⟨B, i * 7 + j, none⟩ u) B n (upd2 F i j u) := by
  obtain ⟨cs, h1, h2, h3⟩ := h
  refine ⟨_, h1.store _ u, by simpa using h2, fun a b ha hb => ?_⟩
  rw [List.getElem?_set]
  unfold upd2
  by_cases e : a = i ∧ b = j
  · obtain ⟨rfl, rfl⟩ := e
    simp
    omega
  · rw [if_neg (by omega), if_neg e]
    exact h3 a b ha hb
theorem OutC.same (h : OutC w B n F) {F' : Nat → Nat → Value} (e : ∀ i j, i < n → j < 7 → F i j = F' i j) : OutC w B n F' := by
  obtain ⟨cs, h1, h2, h3⟩ := h
  exact ⟨cs, h1, h2, fun i j hi hj => by rw [← e i j hi hj]; exact h3 i j hi hj⟩
theorem OutC.other (h : OutC w B n F) {row : Option Nat} (hg : w.grownBy w' row) (hb : row ≠ some B) : OutC w' B n F := by
  have hl := h.lt
  obtain ⟨cs, h1, h2⟩ := h
  exact ⟨cs, (hg.block B hl (Ne.symm hb)).trans h1, h2⟩
theorem OutC.below (h : OutC w B n F) (hb : Below w.heap.size w w') : OutC w' B n F := by
  have hl := h.lt
  obtain ⟨cs, h1, h2⟩ := h
  exact ⟨cs, h1.below hb hl, h2⟩
end
/-! ### rows of one kind -/
structure Fam {α : Type} (t : TypeId) (enc : α → Value) (w : World) (base n : Nat) (v : Nat → Value) (l : Nat → List α) : Prop where
  own : ∀ i, i < n → w.ownsRow base t 1 (v i) (l i).length ((l i).map enc)
  ap : ∀ i j b, i < n → j < n → (v i).ownBlock = some b → (v j).ownBlock = some b → i = j
section
variable {α : Type} {t : TypeId} {enc : α → Value} {w w' : World} {base n : Nat} {v : Nat → Value} {l : Nat → List α}
theorem Fam.put (h : Fam t enc w base n v l) {i : Nat} (hi : i < n) (hg : w.grownBy w' (v i).ownBlock) {v' : Value} {l' : List α} (hv : w'.ownsRow base t 1 v' l'.length (l'.map enc)) (hf : v'.ownBlock = (v i).ownBlock ∨ ∀ k, v'.ownBlock = some k → w.heap.size ≤ k) : Fam t enc w' base n (upd v i v') (upd l i l') := by
  refine ⟨fun j hj => ?_, fun a b k ha hb h1 h2 => ?_⟩
  · by_cases e : j = i
    · subst e
      rw [upd_at, upd_at]
      exact hv
    · rw [upd_ne _ _ e, upd_ne _ _ e]
      refine World.ownsRow.kept (h.own j hj) hg ?_
      cases hk : (v j).ownBlock with
      | none => exact .inl rfl
      | some k => exact .inr fun e1 => e (h.ap j i k hj hi hk e1.symm)
  · by_cases ea : a = i
    · subst ea
      by_cases eb : b = a
      · exact eb.symm
      · rw [upd_at] at h1
        rw [upd_ne _ _ eb] at h2
        rcases hf with hf | hf
        · exact (h.ap a b k ha hb (by rw [← hf]; exact h1) h2)
        · have := hf k h1
          have := ((h.own b hb).lt k h2).2
          omega
    · by_cases eb : b = i
      · subst eb
        rw [upd_at] at h2
        rw [upd_ne _ _ ea] at h1
        rcases hf with hf | hf
        · exact (h.ap a b k ha hb h1 (by rw [← hf]; exact h2))
        · have := hf k h2
          have := ((h.own a ha).lt k h1).2
          omega
      · rw [upd_ne _ _ ea] at h1
        rw [upd_ne _ _ eb] at h2
        exact h.ap a b k ha hb h1 h2
theorem Fam.others (h : Fam t enc w base n v l) {row : Option Nat} (hg : w.grownBy w' row) (hn : ∀ b, row = some b → NotT w b t) : Fam t enc w' base n v l := ⟨fun i hi => row_others (h.own i hi) hg hn, h.ap⟩
theorem Fam.other (h : Fam t enc w base n v l) {b : Nat} (hg : w.grownBy w' (some b)) (hn : NotT w b t) : Fam t enc w' base n v l := ⟨fun i hi => row_other (h.own i hi) hg hn, h.ap⟩
theorem Fam.below (h : Fam t enc w base n v l) (hb : Below w.heap.size w w') : Fam t enc w' base n v l := ⟨fun i hi => own_below (h.own i hi) hb, h.ap⟩
theorem Fam.nil (t : TypeId) (enc : α → Value) (w : World) (base n : Nat) : Fam t enc w base n (fun _ => .slice none 0 0) (fun _ => []) := ⟨fun i hi => ⟨by simp, .inl ⟨rfl, rfl⟩⟩, fun i j b _ _ h => by cases h⟩
theorem Fam.same (h : Fam t enc w base n v l) {v' : Nat → Value} {l' : Nat → List α} (hv : ∀ i, i < n → v i = v' i) (hl : ∀ i, i < n → l i = l' i) : Fam t enc w base n v' l' :=
  ⟨fun i hi => by rw [← hv i hi, ← hl i hi]; exact h.own i hi, fun i j b hi hj => by rw [← hv i hi, ← hv j hj]; exact h.ap i j b hi hj⟩
end
/-! ### all of it -/
/-- what stands in field j of block i. -/
def FF (m : Nat) (c : Nat → Nat) (vi vg : Nat → Value) (i j : Nat) : Value :=
  if j = 0 then vi (2 * i) else if j = 1 then vi (2 * i + 1) else if j = 2 then .map (some (c (4 * i))) else if j = 3 then .map (some (c (4 * i + 1))) else if j = 4 then .map (some (c (4 * i + 2))) else if j = 5 then .map (if i < m then some (c (4 * i + 3)) else none) else vg i
structure St (U : List Wd) (w : World) (base B n m : Nat) (c : Nat → Nat) (S : Nat → Wd → Bool) (vi : Nat → Value) (li : Nat → List Int) (vg : Nat → Value) (gr : Nat → List Wd) : Prop where
  ob : base ≤ B
  out : OutC w B n (FF m c vi vg)
  ms : MS U w n m c S
  mb : ∀ x, OkM n m x → base ≤ c x
  ri : Fam 3 i64 w base (2 * n) vi li
  rg : Fam 9 str w base n vg gr
theorem FF_clear (m : Nat) (c : Nat → Nat) (vi vg : Nat → Value) (i : Nat) (v : Value) (a b : Nat) (hb : b < 7) : upd2 (FF m c vi vg) i 6 v a b = FF m c vi (upd vg i v) a b := by
  unfold upd2 FF upd
  by_cases e : a = i
  · subst e
    by_cases e2 : b = 6
    · subst e2
      simp
    · rw [if_neg (by omega)]
      simp only [if_true]
      repeat (split; rfl)
      omega
  · simp only [e, false_and, if_false]
section
variable {U : List Wd} {w w' : World} {base B n m : Nat} {c : Nat → Nat} {S : Nat → Wd → Bool} {vi : Nat → Value} {li : Nat → List Int} {vg : Nat → Value} {gr : Nat → List Wd}
theorem OutC.isRow {F : Nat → Nat → Value} (h : OutC w B n F) : IsRow w B := by
  obtain ⟨cs, h1, _⟩ := h
  exact isRow_own h1
theorem OutC.notT {F : Nat → Nat → Value} (h : OutC w B n F) {e : TypeId} (he : 95 ≠ e) : NotT w B e := by
  obtain ⟨cs, h1, _⟩ := h
  exact notT_own h1 he
theorem St.below (h : St U w base B n m c S vi li vg gr) (hb : Below w.heap.size w w') : St U w' base B n m c S vi li vg gr :=
  ⟨h.ob, h.out.below hb, h.ms.below hb, h.mb, h.ri.below hb, h.rg.below hb⟩
/-- a set has turned. -/
theorem St.putm (h : St U w base B n m c S vi li vg gr) {x : Nat} (hx : OkM n m x) (hg : w.grownBy w' (some (c x))) {T : Wd → Bool} (hs : SetO U w' (c x) T) : St U w' base B n m c (upd S x T) vi li vg gr := by
  have h1 := h.ms.set x hx
  exact ⟨h.ob, h.out.other hg (fun e => set_ne_row h1 h.out.isRow (by simpa using e)), h.ms.put hx hg hs, h.mb, h.ri.other hg (notT_map h1 _), h.rg.other hg (notT_map h1 _)⟩
/-- a row of names has turned, and is laid into its block. -/
theorem St.push (h : St U w base B n m c S vi li vg gr) {i : Nat} (hi : i < n) (hg : w.grownBy w' (vg i).ownBlock) {v' : Value} {l' : List Wd} (hv : w'.ownsRow base 9 1 v' l'.length (l'.map str)) (hf : v'.ownBlock = (vg i).ownBlock ∨ ∀ k, v'.ownBlock = some k → w.heap.size ≤ k) : St U (w'.setCell ⟨B, i * 7 + 6, none⟩ v') base B n m c S vi li (upd vg i v') (upd gr i l') := by
  have hr : ∀ b, (vg i).ownBlock = some b → IsRow w b := fun b hb => isRow_row (h.rg.own i hi) hb
  have hne : (vg i).ownBlock ≠ some B := fun e => by
    have h1 := notT_row (h.rg.own i hi) e (e := 95) (by decide)
    obtain ⟨cs, h2, _⟩ := h.out
    exact h1 _ _ h2
  have o1 := h.out.other hg hne
  have m1 := h.ms.row hg hr
  have i1 := h.ri.others hg fun b hb => notT_row (h.rg.own i hi) hb (by decide)
  have g1 := h.rg.put hi hg hv hf
  have gc := grown_cell w' ⟨B, i * 7 + 6, none⟩ v'
  exact ⟨h.ob, (o1.store (i := i) (j := 6) (by omega) v').same fun a b _ hb => FF_clear m c vi vg i v' a b hb, m1.row gc fun b hb => by cases hb; exact o1.isRow, h.mb, i1.other gc (o1.notT (by decide)), g1.other gc (o1.notT (by decide))⟩
theorem St.outAt (h : St U w base B n m c S vi li vg gr) {i : Nat} (hi : i < n) (hg : w.grownBy w' (vg i).ownBlock) : OutC w' B n (FF m c vi vg) :=
  h.out.other hg fun e => by
    have h1 := notT_row (h.rg.own i hi) e (e := 95) (by decide)
    obtain ⟨cs, h2, _⟩ := h.out
    exact h1 _ _ h2
/-- what is to be told is none any more. -/
theorem St.clear (h : St U w base B n m c S vi li vg gr) {i : Nat} (hi : i < n) : St U (w.setCell ⟨B, i * 7 + 6, none⟩ (.slice none 0 0)) base B n m c S vi li (upd vg i (.slice none 0 0)) (upd gr i []) :=
  h.push hi ⟨rfl, rfl, rfl, Nat.le_refl _, fun _ _ _ => rfl⟩ (v' := .slice none 0 0) (l' := []) ⟨by simp, .inl ⟨rfl, rfl⟩⟩ (.inr fun k hk => by cases hk)
theorem St.cell (h : St U w base B n m c S vi li vg gr) {i j : Nat} (hi : i < n) (hj : j < 7) : w.cell? ⟨B, i * 7 + j, none⟩ = some (FF m c vi vg i j) := h.out.cell hi hj
end
section
variable {U : List Wd} {w w' : World} {base B n m : Nat} {c : Nat → Nat} {S : Nat → Wd → Bool} {vi : Nat → Value} {li : Nat → List Int} {vg : Nat → Value} {gr : Nat → List Wd}
theorem FF_live (c : Nat → Nat) (vi vg : Nat → Value) (m g a b : Nat) (hb : b < 7) : upd2 (FF m c vi vg) m 5 (.map (some g)) a b = FF (m + 1) (upd c (4 * m + 3) g) vi vg a b := by
  by_cases e : a = m
  · subst e
    by_cases e2 : b = 5
    · subst e2
      simp [upd2, FF, upd_at]
    · unfold upd2
      rw [if_neg (by omega)]
      unfold FF
      rw [upd_ne _ _ (by omega : 4 * a ≠ 4 * a + 3), upd_ne _ _ (by omega : 4 * a + 1 ≠ 4 * a + 3), upd_ne _ _ (by omega : 4 * a + 2 ≠ 4 * a + 3)]
      simp only [e2, if_false]
  · unfold upd2
    rw [if_neg (by omega)]
    unfold FF
    rw [upd_ne _ _ (by omega : 4 * a ≠ 4 * m + 3), upd_ne _ _ (by omega : 4 * a + 1 ≠ 4 * m + 3), upd_ne _ _ (by omega : 4 * a + 2 ≠ 4 * m + 3), upd_ne _ _ (by omega : 4 * a + 3 ≠ 4 * m + 3)]
    have e3 : (a < m + 1) ↔ (a < m) := by omega
    simp only [e3]
/-- a new set is laid into the next block. -/
theorem St.live (h : St U w base B n m c S vi li vg gr) (hm : m < n) (hb : Below w.heap.size w w') {g : Nat} (hg : w.heap.size ≤ g) (hbase : base ≤ w.heap.size) {T : Wd → Bool} (hs : SetO U w' g T) : St U (w'.setCell ⟨B, m * 7 + 5, none⟩ (.map (some g))) base B n (m + 1) (upd c (4 * m + 3) g) (upd S (4 * m + 3) T) vi li vg gr := by
  have h1 := h.below hb
  have gc := grown_cell w' ⟨B, m * 7 + 5, none⟩ (.map (some g))
  refine ⟨h.ob, (h1.out.store (i := m) (j := 5) (by omega) _).same fun a b _ hb => FF_live c vi vg m g a b hb, ((h.ms.live hm hb hg hs).row gc fun b e => by cases e; exact h1.out.isRow), fun x hx => ?_, h1.ri.other gc (h1.out.notT (by decide)), h1.rg.other gc (h1.out.notT (by decide))⟩
  by_cases e : x = 4 * m + 3
  · subst e
    rw [upd_at]
    omega
  · rw [upd_ne _ _ e]
    exact h.mb x ⟨hx.1, fun h3 => by have := hx.2 h3; omega⟩
end
theorem notT_walk {w : World} {r : Nat} (h : ∃ o : Obj, w.heap[r]? = some o ∧ o.isCells = false) (e : TypeId) : NotT w r e := by
  obtain ⟨o, h1, h2⟩ := h
  intro cur p e1
  rw [h1] at e1
  cases e1
  cases h2
theorem own_walk {w w' : World} {b : Nat} {t : TypeId} {cs : List Value} (h : Mem.Own w b t cs) {row : Option Nat} (hg : w.grownBy w' row) (hr : ∀ r, row = some r → ∃ o : Obj, w.heap[r]? = some o ∧ o.isCells = false) : Mem.Own w' b t cs :=
  (hg.block b h.lt fun e => notT_walk (hr b e.symm) t _ _ h).trans h
/-- a block that is neither cells nor one of these maps has turned. -/
theorem St.walk {U : List Wd} {w w' : World} {base B n m : Nat} {c : Nat → Nat} {S : Nat → Wd → Bool} {vi : Nat → Value} {li : Nat → List Int} {vg : Nat → Value} {gr : Nat → List Wd} (h : St U w base B n m c S vi li vg gr) {row : Option Nat} (hg : w.grownBy w' row) (hr : ∀ r, row = some r → (∀ x, OkM n m x → c x ≠ r) ∧ ∃ o : Obj, w.heap[r]? = some o ∧ o.isCells = false) : St U w' base B n m c S vi li vg gr :=
  ⟨h.ob, h.out.other hg (fun e => by
    obtain ⟨cs, h1, _⟩ := h.out
    exact notT_walk (hr B e).2 _ _ _ h1), ⟨fun x hx => (h.ms.set x hx).grown hg fun e => (hr _ e.symm).1 x hx rfl, h.ms.inj⟩, h.mb, h.ri.others hg (fun b e => notT_walk (hr b e).2 _), h.rg.others hg (fun b e => notT_walk (hr b e).2 _)⟩
theorem FF_row (m : Nat) (c : Nat → Nat) (vi vg : Nat → Value) (x : Nat) (v : Value) (a b : Nat) : upd2 (FF m c vi vg) (x / 2) (x % 2) v a b = FF m c (upd vi x v) vg a b := by
  unfold upd2
  by_cases e : a = x / 2 ∧ b = x % 2
  · rw [if_pos e]
    obtain ⟨rfl, rfl⟩ := e
    unfold FF
    rcases Nat.mod_two_eq_zero_or_one x with e | e
    · rw [if_pos e, show 2 * (x / 2) = x by omega, upd_at]
    · rw [if_neg (by omega), if_pos e, show 2 * (x / 2) + 1 = x by omega, upd_at]
  · rw [if_neg e]
    unfold FF
    by_cases e0 : b = 0
    · rw [if_pos e0, if_pos e0, upd_ne _ _ (by omega)]
    · by_cases e1 : b = 1
      · rw [if_neg e0, if_pos e1, if_neg e0, if_pos e1, upd_ne _ _ (by omega)]
      · simp only [e0, e1, if_false]
/-- a row of numbers has turned, and is laid into its block. -/
theorem St.pushi {U : List Wd} {w w' : World} {base B n m : Nat} {c : Nat → Nat} {S : Nat → Wd → Bool} {vi : Nat → Value} {li : Nat → List Int} {vg : Nat → Value} {gr : Nat → List Wd} (h : St U w base B n m c S vi li vg gr) {x : Nat} (hx : x < 2 * n) (hg : w.grownBy w' (vi x).ownBlock) {v' : Value} {l' : List Int} (hv : w'.ownsRow base 3 1 v' l'.length (l'.map i64)) (hf : v'.ownBlock = (vi x).ownBlock ∨ ∀ k, v'.ownBlock = some k → w.heap.size ≤ k) : St U (w'.setCell ⟨B, x / 2 * 7 + x % 2, none⟩ v') base B n m c S (upd vi x v') (upd li x l') vg gr := by
  have hr : ∀ b, (vi x).ownBlock = some b → IsRow w b := fun b hb => isRow_row (h.ri.own x hx) hb
  have hne : (vi x).ownBlock ≠ some B := fun e => by
    have h1 := notT_row (h.ri.own x hx) e (e := 95) (by decide)
    obtain ⟨cs, h2, _⟩ := h.out
    exact h1 _ _ h2
  have o1 := h.out.other hg hne
  have m1 := h.ms.row hg hr
  have g1 := h.rg.others hg fun b hb => notT_row (h.ri.own x hx) hb (by decide)
  have i1 := h.ri.put hx hg hv hf
  have gc := grown_cell w' ⟨B, x / 2 * 7 + x % 2, none⟩ v'
  exact ⟨h.ob, (o1.store (i := x / 2) (j := x % 2) (by omega) v').same fun a b _ _ => FF_row m c vi vg x v' a b, m1.row gc fun b hb => by cases hb; exact o1.isRow, h.mb, i1.other gc (o1.notT (by decide)), g1.other gc (o1.notT (by decide))⟩
theorem St.outI {U : List Wd} {w w' : World} {base B n m : Nat} {c : Nat → Nat} {S : Nat → Wd → Bool} {vi : Nat → Value} {li : Nat → List Int} {vg : Nat → Value} {gr : Nat → List Wd} (h : St U w base B n m c S vi li vg gr) {x : Nat} (hx : x < 2 * n) (hg : w.grownBy w' (vi x).ownBlock) : OutC w' B n (FF m c vi vg) :=
  h.out.other hg fun e => by
    have h1 := notT_row (h.ri.own x hx) e (e := 95) (by decide)
    obtain ⟨cs, h2, _⟩ := h.out
    exact h1 _ _ h2
theorem Fam.lower {α : Type} {t : TypeId} {enc : α → Value} {w : World} {base base' n : Nat} {v : Nat → Value} {l : Nat → List α} (h : Fam t enc w base n v l) (hb : base' ≤ base) : Fam t enc w base' n v l := ⟨fun i hi => ownsRow_base_a (h.own i hi) hb, h.ap⟩
theorem St.lower {U : List Wd} {w : World} {base base' B n m : Nat} {c : Nat → Nat} {S : Nat → Wd → Bool} {vi : Nat → Value} {li : Nat → List Int} {vg : Nat → Value} {gr : Nat → List Wd} (h : St U w base B n m c S vi li vg gr) (hb : base' ≤ base) : St U w base' B n m c S vi li vg gr :=
  ⟨Nat.le_trans hb h.ob, h.out, h.ms, fun x hx => Nat.le_trans hb (h.mb x hx), h.ri.lower hb, h.rg.lower hb⟩
/-- append(row, one thing), and where the row lies then. -/
theorem wpList_growP {P : Program} {w : World} {ops : Array Oper} {rest : List Oper} {o : Oper} {a : Go.Act} {Q : Exit → Go.Act → World → Prop} (hgd : o.guard = none) (s x : Operand) (t : TypeId)
    (ho : o.op = .call { callee := .builtin .append, args := #[s, x], argTypes := #[t, t] })
    (base : Nat) (e : TypeId) (size : Nat) (i : TypeInfo) (z : Value) (bytes : Nat) (ht : P.underlying t = some (.slice e)) (hi : P.info? e = some i) (hz : i.zero = some z)
    (hsize : i.size = size) (hby : i.bytes = bytes) (hzs : z.cells.size = size) (hsz : 0 < size)
    (v : Value) (n : Nat) (xs : List Value) (hs : a.eval s = v) (hown : w.ownsRow base e size v n xs)
    (news : List Value) (k : Nat) (hkw : k = w.heap.size) (hx : a.eval x = .slice (some ⟨k, 0, none⟩) 1 1) (hl : news.length = size) (h1 : ∀ u ∈ news, u.oneCell' = true)
    (h63 : n + 1 ≤ 9223372036854775807) (hbytes : (n + 1) * bytes ≤ 140737488355328) (hbase : base ≤ w.heap.size)
    (h : ∀ v' w', w'.ownsRow base e size v' (n + 1) (xs ++ news) → w.grownBy w' v.ownBlock → (v'.ownBlock = v.ownBlock ∨ ∀ k, v'.ownBlock = some k → w.heap.size ≤ k) → wpList P ops Q rest (a.put o.dst v') w') :
    wpList P ops Q (o :: rest) a (w.alloc (.cells news.toArray e)) := by
  subst hkw
  have ho2 : (w.alloc (.cells news.toArray e)).ownsRow base e size v n xs := World.ownsRow.alloc hown _
  have hnews : ∀ j u, news[j]? = some u → (w.alloc (.cells news.toArray e)).cell? ((⟨w.heap.size, 0, none⟩ : Addr).add j) = some u := by
    intro j u hu
    have e1 : (⟨w.heap.size, 0, none⟩ : Addr).add j = ⟨w.heap.size, j, none⟩ := by unfold Addr.add; split <;> simp_all
    rw [e1, (Mem.Own.made w e news).cell]
    exact hu
  refine wpList_plain hgd fun K hK => ?_
  obtain ⟨v', w', hr, h2, h3, _⟩ := run_append_own (P := P) (w.alloc (.cells news.toArray e)) base t o.type e i z size bytes ht hi hz hsize hby hzs hsz v n xs ho2 ⟨w.heap.size, 0, none⟩ 1 1 news (by omega) hnews h1 (by unfold maxLen; omega) hbytes (by simp; omega)
  obtain ⟨v2, w2, hr2, h4⟩ := Hold.append_block (P := P) (w.alloc (.cells news.toArray e)) base t o.type e i z ht hi hz v n xs (by rw [hsize]; exact ho2) ⟨w.heap.size, 0, none⟩ 1 1 news (by omega) hnews h1 (by omega) h63 (by rw [hby]; exact hbytes)
  have ev : v2 = v' := by
    rw [hr] at hr2
    injection hr2 with e1 _
    exact e1.symm
  subst ev
  have hb : w.grownBy w' v.ownBlock := ⟨h3.os, h3.tape, h3.output, Nat.le_trans (by simp) h3.size, fun k hk hne => (h3.block k (by simp; omega) hne).trans (Below.heap_alloc w _ k hk)⟩
  unfold Oper.wp execOp
  simp only [ho, resolve, invoke, builtin, Sem.run_bind, Sem.run_pure, Result.andThen_ok, List.map_toArray, List.map_cons, List.map_nil, hs, hx, hr]
  refine hK _ _ (h v2 w' h2 hb ?_)
  rcases h4 with h4 | h4
  · exact .inl h4
  · right
    intro k hk
    rw [h4] at hk
    injection hk with hk
    subst hk
    simp
end Go.Proofs.Ytaeklfljibjpiaa.Lv12
