/-
  Layer 15: heaps as plain data, and how they lie in memory.
-/
import Derived.Test.YtclikfeaodfmkaaMem
import Derived.Test.YtclikfeaodfmkaaPlainS
import Derived.Test.YtclikfeaodfmkaaProg
import Derived.Test.YtclikfeaodfmkaaHold
import Derived.Test.YtclikfeaodfmkaaChunk
import Derived.Lib.Hide
import Derived.Lib.Walk
namespace Go.Proofs.Ytclikfeaodfmkaa.Hp15
open Go.RowKit Api Mem

structure Vl where
  ty : Wd
  n : Int
structure Ob where
  cls : Wd
  vals : List Vl
abbrev Hp := List Ob
def vlC (x : Vl) : List Value := [str x.ty, i64 x.n]
abbrev vlA (x : Vl) : Value := .agg #[str x.ty, i64 x.n]
def Vls (lo hi : Nat) (w : World) (v : Value) (l : List Vl) : Prop := Row lo hi w 2 (fun cs x => cs = vlC x) v l
def ObC (lo hi : Nat) (w : World) (cs : List Value) (x : Ob) : Prop := ∃ u, cs = [str x.cls, u] ∧ Vls lo hi w u x.vals
def Obs (lo hi : Nat) (w : World) (v : Value) (h : Hp) : Prop := Row lo hi w 2 (ObC lo hi w) v h
section
variable {lo hi lo' hi' : Nat} {w w' : World} (s : Still lo hi lo' hi' w w')
include s
theorem Vls.move {v : Value} {l : List Vl} (h : Vls lo hi w v l) : Vls lo' hi' w' v l := Row.move h s.keep s.low s.high fun _ _ h => h
theorem ObC.move {cs : List Value} {x : Ob} (h : ObC lo hi w cs x) : ObC lo' hi' w' cs x := by
  obtain ⟨u, e, h⟩ := h; exact ⟨u, e, Vls.move s h⟩
theorem Obs.move {v : Value} {h : Hp} (k : Obs lo hi w v h) : Obs lo' hi' w' v h := Row.move k s.keep s.low s.high fun _ _ h => ObC.move s h
end
/-! ### what is within bounds -/
def vlG (x : Vl) : Prop := x.ty.length ≤ 140737488351232 ∧ NumM.In x.n
def obG (x : Ob) : Prop := x.cls.length ≤ 140737488351232 ∧ ∀ v ∈ x.vals, vlG v
def hpG (h : Hp) : Prop := ∀ x ∈ h, obG x
/-! ### what functions answer -/
def BPH (p : Prop) (w : World) (e : Ending) (w' : World) : Prop := ∃ b : Bool, e = .returned (.bool b) ∧ (b = true ↔ p) ∧ Below w.heap.size w w'
def TPH (p : Prop) (w : World) (e : Ending) (w' : World) : Prop := ∃ b : Bool, e = .returned (.bool b) ∧ (b = true → p) ∧ Below w.heap.size w w'
abbrev wRef : Wd := [114, 101, 102]
abbrev wInt : Wd := [105, 110, 116]
abbrev wFloat : Wd := [102, 108, 111, 97, 116]
/-- the value leads to an object. -/
def LeadsP (h : Hp) (v : Vl) : Prop := v.ty = wRef ∧ 1 ≤ v.n ∧ v.n ≤ h.length
/-- the place of the object to which a value leads. -/
abbrev plH (v : Vl) : Nat := (v.n - 1).toNat
/-- the field that there is. -/
def HasP (h : Hp) (o : Vl) (at_ : Int) (x : Ob) (f : Vl) : Prop := LeadsP h o ∧ 0 ≤ at_ ∧ h[plH o]? = some x ∧ x.vals[at_.toNat]? = some f
def noughtV (t : Wd) : Vl := if t = wInt then ⟨wInt, 0⟩ else if t = wFloat then ⟨wFloat, 0⟩ else ⟨wRef, 0⟩
/-! ### cells -/
theorem two_at {α : Type} {lo hi : Nat} {w w' : World} {b off n cap i : Nat} {P : List Value → α → Prop} {l : List α} {x : α} (h : Row lo hi w 2 P (.slice (some ⟨b, off, none⟩) n cap) l) (hx : l[i]? = some x) (hb : Below hi w w') : ∃ cs, cs.length = 2 ∧ P cs x ∧ ∀ c d, cs = [c, d] → w'.cell? ⟨b, off + i * 2, none⟩ = some c ∧ w'.cell? ⟨b, off + i * 2 + 1, none⟩ = some d := by
  obtain ⟨b', off', hn, hm, ha, hc⟩ := h.get
  have hi := (List.getElem?_eq_some_iff.1 hx).1
  obtain ⟨e, h1, h2⟩ := ha (by omega)
  simp only [Option.some.injEq, Addr.mk.injEq, and_true] at e
  obtain ⟨rfl, rfl⟩ := e
  obtain ⟨cs, c1, c2, c3⟩ := hc i x hx
  refine ⟨cs, c1, c3, fun c d e => ?_⟩
  subst e
  have h3 := cells_later c2 hb h2
  exact ⟨h3 0 c rfl, h3 1 d rfl⟩
theorem vl_at {lo hi : Nat} {w w' : World} {b off n cap i : Nat} {l : List Vl} {x : Vl} (h : Vls lo hi w (.slice (some ⟨b, off, none⟩) n cap) l) (hx : l[i]? = some x) (hb : Below hi w w') : w'.cell? ⟨b, off + i * 2, none⟩ = some (str x.ty) ∧ w'.cell? ⟨b, off + i * 2 + 1, none⟩ = some (i64 x.n) := by
  obtain ⟨cs, _, rfl, h2⟩ := two_at h hx hb
  exact h2 _ _ rfl
theorem ob_at {lo hi : Nat} {w : World} {b off n cap i : Nat} {l : Hp} {x : Ob} (h : Obs lo hi w (.slice (some ⟨b, off, none⟩) n cap) l) (hx : l[i]? = some x) : ∃ A c, Vls lo hi w (.slice A x.vals.length c) x.vals ∧ ∀ w', Below hi w w' → w'.cell? ⟨b, off + i * 2, none⟩ = some (str x.cls) ∧ w'.cell? ⟨b, off + i * 2 + 1, none⟩ = some (.slice A x.vals.length c) := by
  obtain ⟨b', off', hn, hm, ha, hc⟩ := Row.get h
  have hi := (List.getElem?_eq_some_iff.1 hx).1
  obtain ⟨e, h1, h2⟩ := ha (by omega)
  simp only [Option.some.injEq, Addr.mk.injEq, and_true] at e
  obtain ⟨rfl, rfl⟩ := e
  obtain ⟨cs, c1, c2, u, rfl, hu⟩ := hc i x hx
  obtain ⟨A, k1, rfl⟩ := Row.form hu
  refine ⟨A, k1, hu, fun w' hb => ?_⟩
  have h3 := cells_later c2 hb h2
  exact ⟨h3 0 _ rfl, h3 1 _ rfl⟩
theorem addr2 {α : Type} {lo hi : Nat} {w : World} {A : Option Addr} {n cap : Nat} {P : List Value → α → Prop} {l : List α} (h : Row lo hi w 2 P (.slice A n cap) l) (h0 : 0 < n) : ∃ b off, A = some ⟨b, off, none⟩ ∧ lo ≤ b ∧ b < hi := by
  obtain ⟨b, off, _, _, ha, _⟩ := h.get
  exact ⟨b, off, ha h0⟩
theorem row_len {α : Type} {lo hi size : Nat} {w : World} {P : List Value → α → Prop} {v : Value} {l : List α} (h : Row lo hi w size P v l) : l.length ≤ 4611686018427387903 := by
  obtain ⟨A, k, rfl⟩ := Row.form h
  obtain ⟨_, _, _, h, _⟩ := Row.get h
  exact h
theorem take_one {α : Type} {a b : List α} {k : Nat} {x y : α} (h : a.take k = b.take k) (hx : a[k]? = some x) (hy : b[k]? = some y) (e : x = y) : a.take (k + 1) = b.take (k + 1) := by
  obtain ⟨h1, e1⟩ := List.getElem?_eq_some_iff.1 hx
  obtain ⟨h2, e2⟩ := List.getElem?_eq_some_iff.1 hy
  rw [List.take_succ_eq_append_getElem h1, List.take_succ_eq_append_getElem h2, h, e1, e2, e]
theorem un_at {α : Type} {a b : List α} {k : Nat} {x y : α} (hx : a[k]? = some x) (hy : b[k]? = some y) (e : x ≠ y) : a ≠ b := fun h => by
  rw [h, hy] at hx
  exact e (Option.some.inj hx).symm
theorem up15 (w : World) (o : Obj) : Below w.heap.size w (w.alloc o) := (Below.refl _ _).alloc (Nat.le_refl _) _
theorem few_take {α : Type} {l : List α} {k : Nat} {x : α} (hx : l[k]? = some x) {Q : α → Prop} (h : ∀ y ∈ l.take k, Q y) (hq : Q x) : ∀ y ∈ l.take (k + 1), Q y := by
  obtain ⟨hk, e⟩ := List.getElem?_eq_some_iff.1 hx
  intro y hy
  rw [List.take_succ_eq_append_getElem hk, e] at hy
  rcases List.mem_append.1 hy with hy | hy
  · exact h y hy
  · simp at hy
    subst hy
    exact hq
def FewH (h : Hp) : Prop := h.length ≤ 100 ∧ ∀ x ∈ h, x.vals.length ≤ 20
theorem results_cell15 {fn : Func} {p : Tmp} {ty : TypeId} (h : fn.results = #[.cell p ty]) (tmps : Array Value) (P : Program) (w : World) :
    (results fn tmps).run P w = ((asAddr (tmps.getD p undef)).run P w).andThen fun a w₁ => (loadVar ty a).run P w₁ := by
  simp only [results, h]
  simp [Sem.run_bind, Result.andThen]
theorem results_ct15 {fn : Func} {p u : Tmp} {ty : TypeId} (h : fn.results = #[.cell p ty, .tmp u]) (tmps : Array Value) (P : Program) (w : World) :
    (results fn tmps).run P w = ((asAddr (tmps.getD p undef)).run P w).andThen fun a w₁ => ((loadVar ty a).run P w₁).andThen fun v w₂ => .ok (.tuple #[v, tmps.getD u undef]) w₂ := by
  simp only [results, h]
  simp [Sem.run_bind, Result.andThen]
theorem results_tc15 {fn : Func} {p u : Tmp} {ty : TypeId} (h : fn.results = #[.tmp u, .cell p ty]) (tmps : Array Value) (P : Program) (w : World) :
    (results fn tmps).run P w = ((asAddr (tmps.getD p undef)).run P w).andThen fun a w₁ => ((loadVar ty a).run P w₁).andThen fun v w₂ => .ok (.tuple #[tmps.getD u undef, v]) w₂ := by
  simp only [results, h]
  simp [Sem.run_bind, Result.andThen]
/-- a box of two cells, whole in whatever later world. -/
theorem box2 {W w1 : World} {g : Nat} {t : TypeId} {c d : Value} (o : Mem.Own W g t [c, d]) (hb : Below W.heap.size W w1) : Mem.Own w1 g t [c, d] ∧ w1.cell? ⟨g, 0, none⟩ = some c ∧ w1.cell? ⟨g, 1, none⟩ = some d ∧ w1.frozen? ⟨g, 0, none⟩ = false ∧ w1.frozen? ⟨g, 1, none⟩ = false ∧ g < w1.heap.size :=
  have k := o.below hb o.lt
  ⟨k, k.cell 0, k.cell 1, k.thaw 0, k.thaw 1, k.lt⟩
end Go.Proofs.Ytclikfeaodfmkaa.Hp15
