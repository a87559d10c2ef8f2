/-
  Layer 15: heaps that a call owns: rows of rows of two cells.
-/
import Derived.Test.YtclikfeaodfmkaaHpMem
import Derived.Laws.OwnMore
import Derived.Laws.MakeOwn
import Derived.WalkKit
namespace Go.Proofs.Ytclikfeaodfmkaa.Hp15
open Go.RowKit Api Mem

def pcV (l : List Vl) : List Value := (l.map vlC).flatten
def obC (us : List Value) (H : Hp) : List Value := (List.zipWith (fun (u : Value) (x : Ob) => [str x.cls, u]) us H).flatten
abbrev inV (v : Value) (l : List Vl) : Hold.Rec := ⟨25, 2, v, l.length, pcV l⟩
abbrev outO (v : Value) (us : List Value) (H : Hp) : Hold.Rec := ⟨33, 2, v, H.length, obC us H⟩
def inns (us : List Value) (H : Hp) : List Hold.Rec := List.zipWith (fun (u : Value) (x : Ob) => inV u x.vals) us H
/-- a heap that a call owns. -/
def HOwn (w : World) (base : Nat) (v : Value) (H : Hp) : Prop := ∃ us, us.length = H.length ∧ Hold.Apart w base (outO v us H :: inns us H)
/-- values that a call owns. -/
def VOwn (w : World) (base : Nat) (v : Value) (l : List Vl) : Prop := w.ownsRow base 25 2 v l.length (pcV l)
theorem set_same15 {α : Type} : ∀ {l : List α} {i : Nat} {x : α}, l[i]? = some x → l.set i x = l
  | [], _, _, h => by simp at h
  | a :: l, 0, x, h => by simp at h; simp [h]
  | a :: l, i + 1, x, h => by
    rw [List.set_cons_succ, set_same15 (by simpa using h)]
theorem pcV_len (l : List Vl) : (pcV l).length = l.length * 2 := by
  induction l with
  | nil => rfl
  | cons a l ih => unfold pcV at *; simp only [List.map_cons, List.flatten_cons, List.length_append, ih, List.length_cons, vlC, List.length_nil]; omega
theorem pcV_at : ∀ {l : List Vl} {i : Nat} {x : Vl}, l[i]? = some x → (pcV l)[i * 2]? = some (str x.ty) ∧ (pcV l)[i * 2 + 1]? = some (i64 x.n)
  | [], _, _, h => by simp at h
  | a :: l, 0, x, h => by simp at h; subst h; exact ⟨rfl, rfl⟩
  | a :: l, i + 1, x, h => by
    have := pcV_at (l := l) (i := i) (by simpa using h)
    have e : pcV (a :: l) = str a.ty :: i64 a.n :: pcV l := rfl
    rw [e, show (i + 1) * 2 = i * 2 + 1 + 1 by omega, List.getElem?_cons_succ, List.getElem?_cons_succ]
    rw [show i * 2 + 1 + 1 + 1 = i * 2 + 1 + 1 + 1 from rfl, List.getElem?_cons_succ, List.getElem?_cons_succ]
    exact this
theorem pcV_set : ∀ {l : List Vl} {i : Nat} (x : Vl), i < l.length → ((pcV l).set (i * 2) (str x.ty)).set (i * 2 + 1) (i64 x.n) = pcV (l.set i x)
  | [], _, _, h => by simp at h
  | a :: l, 0, x, h => rfl
  | a :: l, i + 1, x, h => by
    have := pcV_set (l := l) (i := i) x (by simpa using h)
    have e : pcV (a :: l) = str a.ty :: i64 a.n :: pcV l := rfl
    have e2 : pcV ((a :: l).set (i + 1) x) = str a.ty :: i64 a.n :: pcV (l.set i x) := rfl
    rw [e, e2, ← this, show (i + 1) * 2 = i * 2 + 1 + 1 by omega, List.set_cons_succ, List.set_cons_succ, List.set_cons_succ, List.set_cons_succ]
theorem obC_len {us : List Value} {H : Hp} (h : us.length = H.length) : (obC us H).length = H.length * 2 := by
  induction H generalizing us with
  | nil => match us, h with | [], _ => rfl
  | cons a l ih =>
    match us, h with
    | u :: us, h =>
      have := ih (us := us) (by simpa using h)
      unfold obC at *
      simp only [List.zipWith_cons_cons, List.flatten_cons, List.length_append, this, List.length_cons, List.length_nil]; omega
theorem obC_at : ∀ {us : List Value} {H : Hp} {i : Nat} {u : Value} {x : Ob}, us[i]? = some u → H[i]? = some x → (obC us H)[i * 2]? = some (str x.cls) ∧ (obC us H)[i * 2 + 1]? = some u
  | [], _, _, _, _, h, _ => by simp at h
  | _ :: _, [], _, _, _, _, h => by simp at h
  | a :: us, b :: H, 0, u, x, h, k => by simp at h k; subst h; subst k; exact ⟨rfl, rfl⟩
  | a :: us, b :: H, i + 1, u, x, h, k => by
    have := obC_at (us := us) (H := H) (i := i) (by simpa using h) (by simpa using k)
    have e : obC (a :: us) (b :: H) = str b.cls :: a :: obC us H := rfl
    rw [e, show (i + 1) * 2 = i * 2 + 1 + 1 by omega, List.getElem?_cons_succ, List.getElem?_cons_succ, List.getElem?_cons_succ, List.getElem?_cons_succ]
    exact this
theorem obC_set : ∀ {us : List Value} {H : Hp} {i : Nat} (u : Value) (x : Ob), i < us.length → i < H.length → ((obC us H).set (i * 2) (str x.cls)).set (i * 2 + 1) u = obC (us.set i u) (H.set i x)
  | [], _, _, _, _, h, _ => by simp at h
  | _ :: _, [], _, _, _, _, h => by simp at h
  | a :: us, b :: H, 0, u, x, h, k => rfl
  | a :: us, b :: H, i + 1, u, x, h, k => by
    have := obC_set (us := us) (H := H) (i := i) u x (by simpa using h) (by simpa using k)
    have e : obC (a :: us) (b :: H) = str b.cls :: a :: obC us H := rfl
    have e2 : obC ((a :: us).set (i + 1) u) ((b :: H).set (i + 1) x) = str b.cls :: a :: obC (us.set i u) (H.set i x) := rfl
    rw [e, e2, ← this, show (i + 1) * 2 = i * 2 + 1 + 1 by omega, List.set_cons_succ, List.set_cons_succ, List.set_cons_succ, List.set_cons_succ]
theorem inns_at : ∀ {us : List Value} {H : Hp} {i : Nat} {u : Value} {x : Ob}, us[i]? = some u → H[i]? = some x → ∃ rest, ∀ u' x', (inns (us.set i u') (H.set i x')).Perm (inV u' x'.vals :: rest)
  | [], _, _, _, _, h, _ => by simp at h
  | _ :: _, [], _, _, _, _, h => by simp at h
  | a :: us, b :: H, 0, u, x, h1, h2 => ⟨inns us H, fun v' l' => List.Perm.refl _⟩
  | a :: us, b :: H, i + 1, u, x, h1, h2 => by
    obtain ⟨rest, hr⟩ := inns_at (us := us) (H := H) (i := i) (by simpa using h1) (by simpa using h2)
    exact ⟨inV a b.vals :: rest, fun v' l' => ((hr v' l').cons (inV a b.vals)).trans (List.Perm.swap _ _ _)⟩
theorem inns_get {us : List Value} {H : Hp} {i : Nat} {u : Value} {x : Ob} (h1 : us[i]? = some u) (h2 : H[i]? = some x) : inV u x.vals ∈ inns us H := by
  refine List.mem_of_getElem? (i := i) ?_
  unfold inns
  rw [List.getElem?_zipWith, h1, h2]
theorem inns_snoc {us : List Value} {H : Hp} (h : us.length = H.length) (u : Value) (x : Ob) : inns (us ++ [u]) (H ++ [x]) = inns us H ++ [inV u x.vals] := by
  unfold inns
  rw [List.zipWith_append h]
  rfl
theorem obC_snoc {us : List Value} {H : Hp} (h : us.length = H.length) (u : Value) (x : Ob) : obC (us ++ [u]) (H ++ [x]) = obC us H ++ [str x.cls, u] := by
  unfold obC
  rw [List.zipWith_append h, List.flatten_append]
  rfl
/-! ### the form of a row of two cells -/
theorem two_form {w : World} {base : Nat} {e : TypeId} {v : Value} {n : Nat} {cs : List Value} (h : w.ownsRow base e 2 v n cs) : ∃ A c, v = .slice A n c := by
  rcases h.2 with ⟨rfl, rfl⟩ | ⟨g, cap, cur, rfl, _⟩
  · exact ⟨_, _, rfl⟩
  · exact ⟨_, _, rfl⟩
theorem two_addr {w : World} {base : Nat} {e : TypeId} {v : Value} {n : Nat} {cs : List Value} (h : w.ownsRow base e 2 v n cs) (h0 : 0 < n) : ∃ g c, v = .slice (some ⟨g, 0, none⟩) n c ∧ base ≤ g ∧ g < w.heap.size ∧ n ≤ c := by
  rcases h.2 with ⟨_, h1⟩ | ⟨g, cap, cur, e, hb, hg, hn, r⟩
  · omega
  · exact ⟨g, cap, e, hb, (Array.getElem?_eq_some_iff.1 hg).1, hn⟩
theorem VOwn.below {w w' : World} {base : Nat} {v : Value} {l : List Vl} (h : VOwn w base v l) (hb : Below w.heap.size w w') : VOwn w' base v l := Hold.Rec.on.below (r := inV v l) h hb
theorem VOwn.lower {w : World} {base b : Nat} {v : Value} {l : List Vl} (h : VOwn w base v l) (hb : b ≤ base) : VOwn w b v l := Hold.Rec.on.lower (r := inV v l) h hb
theorem VOwn.form {w : World} {base : Nat} {v : Value} {l : List Vl} (h : VOwn w base v l) : ∃ A c, v = .slice A l.length c := two_form h
theorem VOwn.vls {w : World} {base hi : Nat} {v : Value} {l : List Vl} (h : VOwn w base v l) (hh : w.heap.size ≤ hi) (hl : l.length ≤ 4611686018427387903) : Vls base hi w v l :=
  Hold.Rec.on.row (r := inV v l) (ys := l.map vlC) h hh hl rfl (by simp) rfl (by
    intro i c x hc hx
    rw [List.getElem?_map, hx] at hc
    cases hc
    exact ⟨rfl, rfl⟩)
theorem HOwn.below {w w' : World} {base : Nat} {v : Value} {H : Hp} (h : HOwn w base v H) (hb : Below w.heap.size w w') : HOwn w' base v H := by
  obtain ⟨us, hv, ha⟩ := h
  exact ⟨us, hv, ha.below hb⟩
theorem HOwn.lower {w : World} {base b : Nat} {v : Value} {H : Hp} (h : HOwn w base v H) (hb : b ≤ base) : HOwn w b v H := by
  obtain ⟨us, hv, ha⟩ := h
  exact ⟨us, hv, ha.lower hb⟩
theorem HOwn.form {w : World} {base : Nat} {v : Value} {H : Hp} (h : HOwn w base v H) : ∃ A cap, v = .slice A H.length cap := by
  obtain ⟨us, hv, ha⟩ := h
  obtain ⟨A, cap, e⟩ := ha.head.form
  exact ⟨A, cap, e⟩
theorem HOwn.obs {w : World} {base hi : Nat} {v : Value} {H : Hp} (h : HOwn w base v H) (hh : w.heap.size ≤ hi) (hl : H.length ≤ 4611686018427387903) (hs : ∀ x ∈ H, x.vals.length ≤ 4611686018427387903) : Obs base hi w v H := by
  obtain ⟨us, hv, ha⟩ := h
  exact Hold.Rec.on.row (r := outO v us H) (ys := List.zipWith (fun (u : Value) (x : Ob) => [str x.cls, u]) us H) ha.head hh hl rfl (by simp [hv]) rfl (by
    intro i c x hc hx
    have hi := (List.getElem?_eq_some_iff.1 hx).1
    obtain ⟨u, hu⟩ : ∃ u, us[i]? = some u := ⟨_, List.getElem?_eq_getElem (by omega)⟩
    rw [List.getElem?_zipWith, hu, hx] at hc
    cases hc
    exact ⟨rfl, u, rfl, VOwn.vls (ha.1 (inV u x.vals) (by simp [inns_get hu hx])) hh (hs x (List.mem_of_getElem? hx))⟩)
/-- a row of two cells written at one place. -/
theorem two_store {w : World} {base : Nat} {R : List Hold.Rec} {r : Hold.Rec} {g c i : Nat} (h : Hold.Apart w base (r :: R)) (hv : r.v = .slice (some ⟨g, 0, none⟩) r.n c) (a b : Value) :
    Hold.Apart ((w.setCell ⟨g, i * 2, none⟩ a).setCell ⟨g, i * 2 + 1, none⟩ b) base ({ r with cs := (r.cs.set (i * 2) a).set (i * 2 + 1) b } :: R) := by
  have h1 := h.store (g := g) (cap := c) (q := i * 2) (u := a) hv
  exact h1.store (g := g) (cap := c) (q := i * 2 + 1) (u := b) hv
/-- values of one's own, one of them written. -/
theorem VOwn.put {w : World} {base : Nat} {v : Value} {l : List Vl} {i : Nat} (h : VOwn w base v l) (hi : i < l.length) : ∃ g c, v = .slice (some ⟨g, 0, none⟩) l.length c ∧ base ≤ g ∧ g < w.heap.size ∧ (∃ a, w.cell? ⟨g, i * 2, none⟩ = some a) ∧ (∃ a, w.cell? ⟨g, i * 2 + 1, none⟩ = some a) ∧ w.frozen? ⟨g, i * 2, none⟩ = false ∧ w.frozen? ⟨g, i * 2 + 1, none⟩ = false ∧
    ∀ x : Vl, VOwn ((w.setCell ⟨g, i * 2, none⟩ (str x.ty)).setCell ⟨g, i * 2 + 1, none⟩ (i64 x.n)) base v (l.set i x) := by
  obtain ⟨g, c, e, h1, h2, h3⟩ := two_addr h (by omega)
  subst e
  obtain ⟨y, hy⟩ : ∃ y, l[i]? = some y := ⟨_, List.getElem?_eq_getElem hi⟩
  have hy2 := pcV_at hy
  have hl := pcV_len l
  refine ⟨g, c, rfl, h1, h2, ⟨_, (World.ownsRow.cellAt h (i * 2) (by omega)).trans hy2.1⟩, ⟨_, (World.ownsRow.cellAt h (i * 2 + 1) (by omega)).trans hy2.2⟩, World.ownsRow.frozenAt h _, World.ownsRow.frozenAt h _, fun x => ?_⟩
  have ha : Hold.Apart w base [inV (.slice (some ⟨g, 0, none⟩) l.length c) l] := ⟨fun r hr => by rw [List.mem_singleton] at hr; subst hr; exact h, by simp [Value.ownBlock]⟩
  have h4 := (two_store (g := g) (c := c) (i := i) ha rfl (str x.ty) (i64 x.n)).head
  unfold Hold.Rec.on at h4
  unfold VOwn
  rw [List.length_set, ← pcV_set x hi]
  exact h4
/-- a heap of one's own, one of its objects put anew: its values are a row that was made since. -/
theorem HOwn.put {w : World} {base : Nat} {v : Value} {H : Hp} {i : Nat} (h : HOwn w base v H) (hi : i < H.length) (hbs : base ≤ w.heap.size) : ∃ g c, v = .slice (some ⟨g, 0, none⟩) H.length c ∧ base ≤ g ∧ g < w.heap.size ∧ (∃ a, w.cell? ⟨g, i * 2, none⟩ = some a) ∧ (∃ a, w.cell? ⟨g, i * 2 + 1, none⟩ = some a) ∧ w.frozen? ⟨g, i * 2, none⟩ = false ∧ w.frozen? ⟨g, i * 2 + 1, none⟩ = false ∧
    ∀ (w' : World) (u : Value) (x : Ob), Below w.heap.size w w' → VOwn w' w.heap.size u x.vals → HOwn ((w'.setCell ⟨g, i * 2, none⟩ (str x.cls)).setCell ⟨g, i * 2 + 1, none⟩ u) base v (H.set i x) := by
  obtain ⟨us, hv, ha⟩ := h
  have hr : w.ownsRow base 33 2 v H.length (obC us H) := ha.head
  obtain ⟨g, c, e, h1, h2, h3⟩ := two_addr hr (by omega)
  subst e
  obtain ⟨y, hy⟩ : ∃ y, H[i]? = some y := ⟨_, List.getElem?_eq_getElem hi⟩
  obtain ⟨u0, hu0⟩ : ∃ y, us[i]? = some y := ⟨_, List.getElem?_eq_getElem (by omega)⟩
  have hy2 := obC_at hu0 hy
  have hl := obC_len hv
  refine ⟨g, c, rfl, h1, h2, ⟨_, (hr.cellAt (i * 2) (by omega)).trans hy2.1⟩, ⟨_, (hr.cellAt (i * 2 + 1) (by omega)).trans hy2.2⟩, hr.frozenAt _, hr.frozenAt _, fun w' u x hb hu => ?_⟩
  obtain ⟨rest, hp⟩ := inns_at hu0 hy
  have p0 := hp u0 y
  rw [set_same15 hu0, set_same15 hy] at p0
  have a1 : Hold.Apart w' w.heap.size [inV u x.vals] := ⟨fun r hr => by rw [List.mem_singleton] at hr; subst hr; exact hu, by cases e : u.ownBlock <;> simp [e]⟩
  have a2 := (ha.join hb a1 hbs).perm (List.Perm.swap _ _ _)
  have a3 := two_store (g := g) (c := c) (i := i) a2 rfl (str x.cls) u
  refine ⟨us.set i u, by simp [hv], ?_⟩
  unfold outO
  rw [List.length_set, ← obC_set u x (by omega) hi]
  have a4 := a3.perm ((p0.cons (inV u x.vals)).cons _)
  have a5 := a4.sub (List.Sublist.cons_cons _ (List.Sublist.cons_cons _ (List.sublist_cons_self _ _)))
  exact a5.perm ((hp u x).symm.cons _)
/-- .. and one field of one of its objects written. -/
theorem HOwn.write {w : World} {base : Nat} {v : Value} {H : Hp} {i j : Nat} {x : Ob} (h : HOwn w base v H) (hx : H[i]? = some x) (hj : j < x.vals.length) : ∃ g c b k, v = .slice (some ⟨g, 0, none⟩) H.length c ∧ base ≤ b ∧ b < w.heap.size ∧ g < w.heap.size ∧ w.cell? ⟨g, i * 2 + 1, none⟩ = some (.slice (some ⟨b, 0, none⟩) x.vals.length k) ∧ x.vals.length ≤ k ∧
    (∃ a, w.cell? ⟨b, j * 2, none⟩ = some a) ∧ (∃ a, w.cell? ⟨b, j * 2 + 1, none⟩ = some a) ∧ w.frozen? ⟨b, j * 2, none⟩ = false ∧ w.frozen? ⟨b, j * 2 + 1, none⟩ = false ∧
    ∀ (w' : World) (y : Vl), Below w.heap.size w w' → HOwn ((w'.setCell ⟨b, j * 2, none⟩ (str y.ty)).setCell ⟨b, j * 2 + 1, none⟩ (i64 y.n)) base v (H.set i ⟨x.cls, x.vals.set j y⟩) := by
  obtain ⟨us, hv, ha⟩ := h
  have hi := (List.getElem?_eq_some_iff.1 hx).1
  have hr : w.ownsRow base 33 2 v H.length (obC us H) := ha.head
  obtain ⟨g, c, e, h1, h2, h3⟩ := two_addr hr (by omega)
  subst e
  obtain ⟨u0, hu0⟩ : ∃ y, us[i]? = some y := ⟨_, List.getElem?_eq_getElem (by omega)⟩
  have hy2 := obC_at hu0 hx
  have hl := obC_len hv
  have hin : VOwn w base u0 x.vals := ha.1 (inV u0 x.vals) (by simp [inns_get hu0 hx])
  obtain ⟨b, k, e, h4, h5, h6⟩ := two_addr hin (by omega)
  subst e
  obtain ⟨z, hz⟩ : ∃ y, x.vals[j]? = some y := ⟨_, List.getElem?_eq_getElem hj⟩
  have hz2 := pcV_at hz
  have hl2 := pcV_len x.vals
  refine ⟨g, c, b, k, rfl, h4, h5, h2, (hr.cellAt (i * 2 + 1) (by omega)).trans hy2.2, h6, ⟨_, (World.ownsRow.cellAt hin (j * 2) (by omega)).trans hz2.1⟩, ⟨_, (World.ownsRow.cellAt hin (j * 2 + 1) (by omega)).trans hz2.2⟩, World.ownsRow.frozenAt hin _, World.ownsRow.frozenAt hin _, fun w' y hb => ?_⟩
  obtain ⟨rest, hp⟩ := inns_at hu0 hx
  have p0 := hp (.slice (some ⟨b, 0, none⟩) x.vals.length k) x
  rw [set_same15 hu0, set_same15 hx] at p0
  have a1 := ((ha.below hb).perm (p0.cons _)).perm (List.Perm.swap _ _ _)
  have a2 := two_store (g := b) (c := k) (i := j) a1 rfl (str y.ty) (i64 y.n)
  have e2 : ({ inV (.slice (some ⟨b, 0, none⟩) x.vals.length k) x.vals with cs := ((inV (.slice (some ⟨b, 0, none⟩) x.vals.length k) x.vals).cs.set (j * 2) (str y.ty)).set (j * 2 + 1) (i64 y.n) } : Hold.Rec) = inV (.slice (some ⟨b, 0, none⟩) x.vals.length k) (x.vals.set j y) := by
    simp only [inV, List.length_set]
    rw [pcV_set y hj]
  rw [e2] at a2
  have a3 := (a2.perm (List.Perm.swap _ _ _)).perm ((hp (.slice (some ⟨b, 0, none⟩) x.vals.length k) ⟨x.cls, x.vals.set j y⟩).symm.cons _)
  refine ⟨us.set i (.slice (some ⟨b, 0, none⟩) x.vals.length k), by simp [hv], ?_⟩
  unfold outO
  have e3 : obC (us.set i (.slice (some ⟨b, 0, none⟩) x.vals.length k)) (H.set i ⟨x.cls, x.vals.set j y⟩) = obC us H := by
    rw [← obC_set (.slice (some ⟨b, 0, none⟩) x.vals.length k) ⟨x.cls, x.vals.set j y⟩ (by omega) hi, set_same15 hy2.1, set_same15 hy2.2]
  rw [List.length_set, e3]
  exact a3
/-- one object more at the end: the outer row has grown. -/
theorem HOwn.snoc {w : World} {base : Nat} {v u : Value} {us : List Value} {H : Hp} {x : Ob} (hv : us.length = H.length) (h : Hold.Apart w base (⟨33, 2, v, H.length + 1, obC us H ++ [str x.cls, u]⟩ :: inV u x.vals :: inns us H)) : HOwn w base v (H ++ [x]) := by
  refine ⟨us ++ [u], by simp [hv], ?_⟩
  unfold outO
  rw [obC_snoc hv, inns_snoc hv, List.length_append, List.length_singleton]
  exact h.perm (List.Perm.cons _ (List.perm_append_comm (l₁ := [inV u x.vals]) (l₂ := inns us H)))
theorem made_two (a b : Value) : ∀ n : Nat, (madeCells #[a, b] (n * 2)).toList = (List.replicate n [a, b]).flatten
  | 0 => by simp [madeCells]
  | n + 1 => by
    have ih := made_two a b n
    have e : (madeCells #[a, b] ((n + 1) * 2)).toList = (madeCells #[a, b] (n * 2)).toList ++ [a, b] := by
      unfold madeCells
      rw [show (n + 1) * 2 = n * 2 + 1 + 1 by omega, Array.toList_map, Array.toList_map, Array.toList_range, Array.toList_range, List.range_succ, List.range_succ, List.map_append, List.map_append]
      simp
    rw [e, ih, List.replicate_succ', List.flatten_append]
    simp
theorem zero_pcV (n : Nat) : (madeCells #[str [], i64 0] (n * 2)).toList = pcV (List.replicate n ⟨[], 0⟩) := by
  rw [made_two]
  unfold pcV
  rw [List.map_replicate]
  rfl
theorem zero_obC (n : Nat) : (madeCells #[str [], .slice none 0 0] (n * 2)).toList = obC (List.replicate n (.slice none 0 0)) (List.replicate n ⟨[], []⟩) := by
  rw [made_two]
  unfold obC
  congr 1
  induction n with
  | zero => rfl
  | succ n ih => rw [List.replicate_succ, List.replicate_succ, List.replicate_succ, List.zipWith_cons_cons, ← ih]
theorem info_val : (Try.prog.info? 25).map (fun i => (i.zero, i.size, i.bytes)) = some (some (.agg #[str [], i64 0]), 2, 24) := by kernel_rfl
theorem info_obj : (Try.prog.info? 33).map (fun i => (i.zero, i.size, i.bytes)) = some (some (.agg #[str [], .slice none 0 0]), 2, 40) := by kernel_rfl
/-- make of rows of two cells. -/
theorem run_two {P : Program} {t e : TypeId} {a b : Value} {bytes : Nat} (ht : P.underlying t = some (.slice e)) (hinf : (P.info? e).map (fun i => (i.zero, i.size, i.bytes)) = some (some (.agg #[a, b]), 2, bytes)) (hc : Value.cells (.agg #[a, b]) = #[a, b]) (hby : bytes ≤ 64) (n : Nat) (hn : n ≤ 1099511627776) (w : World) :
    (Instr.makeSlice t (.int .i64 (n : Int)) (.int .i64 (n : Int))).run P w = .ok (.slice (some ⟨w.heap.size, 0, none⟩) n n) (w.alloc (.cells (madeCells #[a, b] (n * 2)) e)) := by
  obtain ⟨i0, hi, hz0, hz1, hz2⟩ := info_parts hinf
  have h := run_make (P := P) w t e i0 _ ht hi hz0 .i64 .i64 (n : Int) (n : Int) (by omega) (by omega) (by
    rw [hz2]
    have : bytes * n ≤ 64 * 1099511627776 := Nat.mul_le_mul hby hn
    have h2 : ((bytes * n : Nat) : Int) ≤ 281474976710656 := by omega
    rwa [Int.natCast_mul] at h2) (by omega)
  rw [hz1, hc] at h
  simp only [Int.toNat_natCast] at h
  exact h
theorem own_two {w w' : World} {e : TypeId} {a b : Value} (n g : Nat) (h : w.alloc (.cells (madeCells #[a, b] (n * 2)) e) = w') (hg : g = w.heap.size) (hn : n ≤ 1099511627776) : w'.ownsRow g e 2 (.slice (some ⟨g, 0, none⟩) n n) n (madeCells #[a, b] (n * 2)).toList := by
  subst h
  subst hg
  exact World.ownsRow_lit (base := w.heap.size) (e := e) (size := 2) w (madeCells #[a, b] (n * 2)) n (Nat.le_refl _) (by unfold maxLen; omega) (by rw [size_madeCells])
theorem nil_inns {n i : Nat} {r : Hold.Rec} (hi : (inns (List.replicate n (.slice none 0 0)) (List.replicate n ⟨[], []⟩))[i]? = some r) : r = inV (.slice none 0 0) [] := by
  unfold inns at hi
  rw [List.getElem?_zipWith, List.getElem?_replicate, List.getElem?_replicate] at hi
  by_cases h : i < n
  · simp [h] at hi
    exact hi.symm
  · simp [h] at hi
/-- n objects that are nothing, just made. -/
theorem hown_made {w w' : World} (n g : Nat) (h : w.alloc (.cells (madeCells #[str [], .slice none 0 0] (n * 2)) 33) = w') (hg : g = w.heap.size) (hn : n ≤ 1099511627776) : HOwn w' g (.slice (some ⟨g, 0, none⟩) n n) (List.replicate n ⟨[], []⟩) := by
  have hrow := own_two n g h hg hn
  rw [zero_obC] at hrow
  refine ⟨List.replicate n (.slice none 0 0), by simp, fun r hr => ?_, ?_⟩
  · rcases List.mem_cons.1 hr with rfl | hr
    · unfold Hold.Rec.on
      simpa using hrow
    · obtain ⟨i, hi⟩ := List.mem_iff_getElem?.1 hr
      have := nil_inns hi
      subst this
      exact World.ownsRow_nil _ _ _ _
  · have e : ((inns (List.replicate n (.slice none 0 0)) (List.replicate n ⟨[], []⟩)).filterMap fun r => r.v.ownBlock) = [] := by
      rw [List.filterMap_eq_nil_iff]
      intro r hr
      obtain ⟨i, hi⟩ := List.mem_iff_getElem?.1 hr
      have := nil_inns hi
      subst this
      rfl
    rw [List.filterMap_cons, e]
    simp [Value.ownBlock]
theorem vown_made {w w' : World} (n g : Nat) (h : w.alloc (.cells (madeCells #[str [], i64 0] (n * 2)) 25) = w') (hg : g = w.heap.size) (hn : n ≤ 1099511627776) : VOwn w' g (.slice (some ⟨g, 0, none⟩) n n) (List.replicate n ⟨[], 0⟩) := by
  have hrow := own_two n g h hg hn
  rw [zero_pcV] at hrow
  unfold VOwn
  simpa using hrow
/-- what is written below stands aside. -/
theorem own_aside {w : World} {base : Nat} {e : TypeId} {size n : Nat} {v : Value} {cs : List Value} (h : w.ownsRow base e size v n cs) (p : Addr) (hp : p.block < base) (u : Value) : (w.setCell p u).ownsRow base e size v n cs := by
  refine ⟨h.1, ?_⟩
  rcases h.2 with hn | ⟨g, cap, cur, e2, hb, hg, r⟩
  · exact .inl hn
  · exact .inr ⟨g, cap, cur, e2, hb, (Below.heap_setCell w p u g (by omega)).trans hg, r⟩
theorem VOwn.aside {w : World} {base : Nat} {v : Value} {l : List Vl} (h : VOwn w base v l) (p : Addr) (hp : p.block < base) (u : Value) : VOwn (w.setCell p u) base v l := own_aside h p hp u
theorem HOwn.aside {w : World} {base : Nat} {v : Value} {H : Hp} (h : HOwn w base v H) (p : Addr) (hp : p.block < base) (u : Value) : HOwn (w.setCell p u) base v H := by
  obtain ⟨us, hv, ha⟩ := h
  exact ⟨us, hv, fun r hr => own_aside (ha.1 r hr) p hp u, ha.2⟩
end Go.Proofs.Ytclikfeaodfmkaa.Hp15
