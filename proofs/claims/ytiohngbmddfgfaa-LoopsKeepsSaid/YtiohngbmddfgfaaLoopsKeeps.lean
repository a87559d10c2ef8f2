/-
  What is handed in stays; what is answered is new memory.
-/
import Derived.Test.YtiohngbmddfgfaaRows
import Derived.Test.YtiohngbmddfgfaaLaw11
import Derived.Test.YtiohngbmddfgfaaOpenG
import Derived.Deep.RegionHeld3
import Derived.StillTailTactics
import Derived.Test.YtiohngbmddfgfaaLpRAll
import Derived.Test.YtiohngbmddfgfaaLpSame
import Derived.Test.YtiohngbmddfgfaaLpBackL
import Derived.Test.YtiohngbmddfgfaaShell
import Derived.ProofKit
import Derived.OpenShut
import Derived.SizedLaws
namespace Go.Proofs.Ytiohngbmddfgfaa.loopsKeeps
open Go.ChangeShapes Go.WideShapes Go.ChangeAt Go.RowKit
open Api Mem Fl9 Dm10 L09 L11 Lp11
theorem run_app_zero {P : Program} {w : World} (base : Nat) (t ty e : TypeId) (i : TypeInfo) (size : Nat) (ht : P.underlying t = some (.slice e)) (hi : P.info? e = some i)
    (v : Value) (n : Nat) (xs : List Value) (hown : w.ownsRow base e size v n xs) (A : Option Addr) (c : Nat) :
    (Builtin.append_ #[t, t] ty #[v, .slice A 0 c]).run P w = .ok v w := by
  rcases hown.2 with ⟨rfl, rfl⟩ | ⟨g, cap, cur, rfl, _, _, hnc, _⟩
  · cases A <;> simp [Builtin.append_, run_underlying ht, sizeOf, typeInfo, hi, Builtin.lenOf, Builtin.firstCells, loadCells, loadCellsFrom]
  · cases A <;> simp [Builtin.append_, run_underlying ht, sizeOf, typeInfo, hi, Builtin.lenOf, Builtin.firstCells, hnc, storeCells, loadCells, loadCellsFrom]
/-- 'append(s, x...)' where x has no elements. -/
theorem wpList_app_zero {P : Program} {w : World} {ops : Array Oper} {rest : List Oper} {o : Oper} {a : Go.Act} {Q : Exit → Go.Act → World → Prop} (hgd : o.guard = none) (s x : Operand) (t : TypeId)
    (ho : o.op = .call { callee := .builtin .append, args := #[s, x], argTypes := #[t, t] })
    (base : Nat) (e : TypeId) (i : TypeInfo) (size : Nat) (ht : P.underlying t = some (.slice e)) (hi : P.info? e = some i)
    (v : Value) (n : Nat) (xs : List Value) (hs : a.eval s = v) (hown : w.ownsRow base e size v n xs) (A : Option Addr) (c : Nat) (hx : a.eval x = .slice A 0 c)
    (h : wpList P ops Q rest (a.put o.dst v) w) : wpList P ops Q (o :: rest) a w := by
  refine wpList_plain hgd fun K hK => ?_
  have hrun := run_app_zero (P := P) (w := w) base t o.type e i size ht hi v n xs hown A c
  unfold Oper.wp
  simp [execOp, ho, resolve, invoke, builtin, hs, hx, hrun, Result.andThen]
  exact hK _ _ h
theorem apart_one9 {w : World} {base : Nat} {r : Hold.Rec} (h : w.ownsRow base r.t r.size r.v r.n r.cs) : Hold.Apart w base [r] := by
  refine ⟨fun x hx => ?_, ?_⟩
  · rw [List.mem_singleton] at hx
    subst hx
    exact h
  · cases e : r.v.ownBlock <;> simp [e]
theorem row_cells9 {lo hi : Nat} {w : World} {b o n c : Nat} {l : List Int} (h : Ints lo hi w (.slice (some ⟨b, o, none⟩) n c) l) : ∀ j u, (iC l)[j]? = some u → w.cell? ⟨b, o + j, none⟩ = some u := by
  intro j u hu
  rw [List.getElem?_map] at hu
  obtain ⟨x, hx, rfl⟩ := Option.map_eq_some_iff.1 hu
  obtain ⟨cs, _, rfl, hc⟩ := cell_of h hx (Below.refl _ _)
  exact hc _ rfl
theorem take_next {g : List (List Int)} {k : Nat} {x : List Int} (h : g[k]? = some x) : g.take k ++ [x] = g.take (k + 1) := by
  obtain ⟨h1, h2⟩ := List.getElem?_eq_some_iff.1 h
  rw [List.take_succ_eq_append_getElem h1, h2]
theorem take_lenk {g : List (List Int)} {k : Nat} (h : k ≤ g.length) : (g.take k).length = k := by
  rw [List.length_take]; omega
/-- the rows of loops, as numbers. -/
def innI (vs : List (Value × Value)) (M : List (List Int × List Int)) : List Hold.Rec := (List.zipWith (fun (p : Value × Value) (x : List Int × List Int) => [innR p.1 x.1, innR p.2 x.2]) vs M).flatten
theorem innI_of : ∀ (vs : List (Value × Value)) (L : List LpT), innI vs (L.map fun x => (casts x.2.1, casts x.2.2)) = innL vs L
  | [], _ => rfl
  | _ :: _, [] => rfl
  | p :: vs, x :: L => by
    have := innI_of vs L
    unfold innI innL at *
    simp only [List.map_cons, List.zipWith_cons_cons, List.flatten_cons, this]
theorem innI_at : ∀ {vs : List (Value × Value)} {M : List (List Int × List Int)} {i : Nat} {p : Value × Value} {x : List Int × List Int}, vs[i]? = some p → M[i]? = some x → ∃ rest, ∀ x' : List Int × List Int, (innI vs (M.set i x')).Perm (innR p.1 x'.1 :: innR p.2 x'.2 :: rest)
  | [], _, _, _, _, h, _ => by simp at h
  | _ :: _, [], _, _, _, _, h => by simp at h
  | a :: vs, b :: M, 0, p, x, h1, h2 => by
    simp at h1
    subst h1
    exact ⟨innI vs M, fun x' => List.Perm.refl _⟩
  | a :: vs, b :: M, i + 1, p, x, h1, h2 => by
    obtain ⟨rest, hr⟩ := innI_at (vs := vs) (M := M) (i := i) (by simpa using h1) (by simpa using h2)
    refine ⟨innR a.1 b.1 :: innR a.2 b.2 :: rest, fun x' => ?_⟩
    have h9 := (((hr x').cons (innR a.2 b.2)).cons (innR a.1 b.1))
    exact h9.trans ((List.perm_append_comm (l₁ := [innR a.1 b.1, innR a.2 b.2]) (l₂ := [innR p.1 x'.1, innR p.2 x'.2])).append_right rest)
theorem set_sameI {α : Type} {l : List α} {i : Nat} {x : α} (h : l[i]? = some x) : l.set i x = l := by
  obtain ⟨h1, h2⟩ := List.getElem?_eq_some_iff.1 h
  rw [← h2]
  exact List.set_getElem_self h1
theorem lpCs_at : ∀ {vs : List (Value × Value)} {L : List LpT} {i : Nat} {p : Value × Value} {x : LpT}, vs[i]? = some p → L[i]? = some x → (lpCs vs L)[i * 3 + 1]? = some p.1 ∧ (lpCs vs L)[i * 3 + 2]? = some p.2
  | [], _, _, _, _, h, _ => by simp at h
  | _ :: _, [], _, _, _, _, h => by simp at h
  | a :: vs, b :: L, 0, p, x, h1, h2 => by simp at h1; subst h1; exact ⟨rfl, rfl⟩
  | a :: vs, b :: L, i + 1, p, x, h1, h2 => by
    have := lpCs_at (vs := vs) (L := L) (i := i) (by simpa using h1) (by simpa using h2)
    have e : lpCs (a :: vs) (b :: L) = i64 (b.1 : Int) :: a.1 :: a.2 :: lpCs vs L := rfl
    rw [e, show (i + 1) * 3 + 1 = (i * 3 + 1) + 1 + 1 + 1 by omega, show (i + 1) * 3 + 2 = (i * 3 + 2) + 1 + 1 + 1 by omega]
    simp only [List.getElem?_cons_succ]
    exact this
/-- as many numbers. -/
def ShL (L : List LpT) (M : List (List Int × List Int)) : Prop := M.length = L.length ∧ ∀ (i : Nat) (x : List Int × List Int), M[i]? = some x → ∃ y : LpT, L[i]? = some y ∧ x.1.length = y.2.1.length ∧ x.2.length = y.2.2.length
theorem ShL.start (L : List LpT) : ShL L (L.map fun x => (casts x.2.1, casts x.2.2)) := ⟨by simp, fun i x h => by
  rw [List.getElem?_map] at h
  obtain ⟨y, hy, rfl⟩ := Option.map_eq_some_iff.1 h
  exact ⟨y, hy, casts_len _, casts_len _⟩⟩
theorem ShL.set {L : List LpT} {M : List (List Int × List Int)} {i : Nat} {x x' : List Int × List Int} (h : ShL L M) (hx : M[i]? = some x) (e1 : x'.1.length = x.1.length) (e2 : x'.2.length = x.2.length) : ShL L (M.set i x') := by
  refine ⟨by rw [List.length_set]; exact h.1, fun k z hz => ?_⟩
  have hi := (List.getElem?_eq_some_iff.1 hx).1
  by_cases e : i = k
  · subst e
    rw [List.getElem?_set_self hi] at hz
    cases hz
    obtain ⟨y, hy, h1, h2⟩ := h.2 i x hx
    exact ⟨y, hy, e1.trans h1, e2.trans h2⟩
  · rw [List.getElem?_set_ne e] at hz
    exact h.2 k z hz
theorem ShL.at {L : List LpT} {M : List (List Int × List Int)} {i : Nat} {y : LpT} (h : ShL L M) (hy : L[i]? = some y) : ∃ x, M[i]? = some x ∧ x.1.length = y.2.1.length ∧ x.2.length = y.2.2.length := by
  have hi := (List.getElem?_eq_some_iff.1 hy).1
  obtain ⟨x, hx⟩ : ∃ x, M[i]? = some x := ⟨_, List.getElem?_eq_getElem (by rw [h.1]; exact hi)⟩
  obtain ⟨z, hz, h1, h2⟩ := h.2 i x hx
  rw [hy] at hz
  cases hz
  exact ⟨x, hx, h1, h2⟩
theorem lcells {t : TypeId} {w : World} {base : Nat} {v : Value} {vs : List (Value × Value)} {L : List LpT} {R : List Hold.Rec} {i : Nat} {p : Value × Value} {y : LpT} (h : Hold.Apart w base (outL t v vs L :: R)) (hu : vs[i]? = some p) (hy : L[i]? = some y) : ∃ g c, v = .slice (some ⟨g, 0, none⟩) L.length c ∧ w.cell? ⟨g, i * 3 + 1, none⟩ = some p.1 ∧ w.cell? ⟨g, i * 3 + 2, none⟩ = some p.2 := by
  have hi := (List.getElem?_eq_some_iff.1 hy).1
  obtain ⟨g, c, e, _, _, _⟩ := form9 (w := w) (v := v) h.head (by show 0 < L.length; omega)
  obtain rfl : v = .slice (some ⟨g, 0, none⟩) L.length c := e
  obtain ⟨h1, h2⟩ := lpCs_at hu hy
  exact ⟨g, c, rfl, Hold.Rec.on.cell h.head rfl h1, Hold.Rec.on.cell h.head rfl h2⟩
theorem lforms {w : World} {base : Nat} {vs : List (Value × Value)} {M : List (List Int × List Int)} {r : Hold.Rec} {i : Nat} {p : Value × Value} {x : List Int × List Int} (h : Hold.Apart w base (r :: innI vs M)) (hu : vs[i]? = some p) (hx : M[i]? = some x) : (∃ A c, p.1 = .slice A x.1.length c) ∧ ∃ A c, p.2 = .slice A x.2.length c := by
  obtain ⟨rest, hr⟩ := innI_at hu hx
  have h0 := hr x
  rw [set_sameI hx] at h0
  have ha := h.perm (h0.cons _)
  exact ⟨any9 (w := w) (ha.1 (innR p.1 x.1) (by simp)), any9 (w := w) (ha.1 (innR p.2 x.2) (by simp))⟩
theorem lstore1 {w : World} {base : Nat} {vs : List (Value × Value)} {M : List (List Int × List Int)} {r : Hold.Rec} {i j : Nat} {p : Value × Value} {x : List Int × List Int} (h : Hold.Apart w base (r :: innI vs M)) (hu : vs[i]? = some p) (hx : M[i]? = some x) (hj : j < x.1.length) :
    ∃ b c, p.1 = .slice (some ⟨b, 0, none⟩) x.1.length c ∧ base ≤ b ∧ b < w.heap.size ∧ (∃ y, w.cell? ⟨b, j, none⟩ = some y) ∧ w.frozen? ⟨b, j, none⟩ = false ∧ ∀ z : Int, Hold.Apart (w.setCell ⟨b, j, none⟩ (i64 z)) base (r :: innI vs (M.set i (x.1.set j z, x.2))) := by
  obtain ⟨rest, hr⟩ := innI_at hu hx
  have h0 := hr x
  rw [set_sameI hx] at h0
  have ha : Hold.Apart w base (innR p.1 x.1 :: r :: innR p.2 x.2 :: rest) := h.perm ((h0.cons _).trans (List.Perm.swap _ _ _))
  have ho : w.ownsRow base 3 1 p.1 x.1.length (iC x.1) := ha.head
  obtain ⟨b, c, e, hb1, hb2, _⟩ := form9 ho (by omega)
  rw [e] at ha ho hr
  refine ⟨b, c, e, hb1, hb2, ⟨_, (ho.cellAt j (by omega)).trans (List.getElem?_eq_getElem (by simp; exact hj))⟩, ho.frozenAt j, fun z => ?_⟩
  have h2 := (ha.store (g := b) (cap := c) (q := j) (u := i64 z) rfl)
  have e2 : ({ innR (.slice (some ⟨b, 0, none⟩) x.1.length c) x.1 with cs := (innR (.slice (some ⟨b, 0, none⟩) x.1.length c) x.1).cs.set j (i64 z) } : Hold.Rec) = innR (.slice (some ⟨b, 0, none⟩) x.1.length c) (x.1.set j z) := by
    simp [innR, iC, List.map_set]
  rw [e2] at h2
  exact h2.perm ((List.Perm.swap _ _ _).trans ((hr (x.1.set j z, x.2)).symm.cons _))
theorem lstore2 {w : World} {base : Nat} {vs : List (Value × Value)} {M : List (List Int × List Int)} {r : Hold.Rec} {i j : Nat} {p : Value × Value} {x : List Int × List Int} (h : Hold.Apart w base (r :: innI vs M)) (hu : vs[i]? = some p) (hx : M[i]? = some x) (hj : j < x.2.length) :
    ∃ b c, p.2 = .slice (some ⟨b, 0, none⟩) x.2.length c ∧ base ≤ b ∧ b < w.heap.size ∧ (∃ y, w.cell? ⟨b, j, none⟩ = some y) ∧ w.frozen? ⟨b, j, none⟩ = false ∧ ∀ z : Int, Hold.Apart (w.setCell ⟨b, j, none⟩ (i64 z)) base (r :: innI vs (M.set i (x.1, x.2.set j z))) := by
  obtain ⟨rest, hr⟩ := innI_at hu hx
  have h0 := hr x
  rw [set_sameI hx] at h0
  have ha : Hold.Apart w base (innR p.2 x.2 :: r :: innR p.1 x.1 :: rest) := h.perm ((h0.cons _).trans (((List.Perm.swap _ _ _).cons _).trans (List.Perm.swap _ _ _)))
  have ho : w.ownsRow base 3 1 p.2 x.2.length (iC x.2) := ha.head
  obtain ⟨b, c, e, hb1, hb2, _⟩ := form9 ho (by omega)
  rw [e] at ha ho hr
  refine ⟨b, c, e, hb1, hb2, ⟨_, (ho.cellAt j (by omega)).trans (List.getElem?_eq_getElem (by simp; exact hj))⟩, ho.frozenAt j, fun z => ?_⟩
  have h2 := (ha.store (g := b) (cap := c) (q := j) (u := i64 z) rfl)
  have e2 : ({ innR (.slice (some ⟨b, 0, none⟩) x.2.length c) x.2 with cs := (innR (.slice (some ⟨b, 0, none⟩) x.2.length c) x.2).cs.set j (i64 z) } : Hold.Rec) = innR (.slice (some ⟨b, 0, none⟩) x.2.length c) (x.2.set j z) := by
    simp [innR, iC, List.map_set]
  rw [e2] at h2
  exact h2.perm ((List.Perm.swap _ _ _).trans ((((List.Perm.swap _ _ _).trans (hr (x.1, x.2.set j z)).symm)).cons _))
set_option maxRecDepth 100000 in
set_option maxHeartbeats 16000000 in
theorem walk (v : Value) (g : List (List Int)) {w : World} (hq : Graph 0 w.heap.size w v g ∧ ∀ l ∈ g, ∀ x ∈ l, NumM.In x) :
    Calls Try.prog 4 #[v] w fun e w' => e = .returned (.bool true) ∧ Below w.heap.size w w' := by
  obtain ⟨hg, hin⟩ := hq
  obtain ⟨A1, k1, rfl⟩ := Row.form hg
  have hgl : g.length ≤ 4611686018427387903 := by obtain ⟨_, _, _, h, _⟩ := Row.get hg; exact h
  have HG := Lib.hid hg
  have HIN := Lib.hid hin
  clear hg hin
  go_enter Try.func4, Try.ntmps4
  go_wp2_with fail
  refine (awake11_any w).mono ?_
  rintro e w1 ⟨rfl, hb1⟩
  have HX1 := Lib.hid hb1
  clear hb1
  go_wp2_with fail
  refine (few11_any 0 w.heap.size w1 _ g (Graph.move (Still.of_below HX1.out) HG.out) HX1.out.size).mono ?_
  rintro e w2 ⟨b2, rfl, hfew, hb2⟩
  have HX2 := Lib.hid (HX1.out.trans (hb2.mono HX1.out.size))
  clear hb2
  cases b2 with
  | false =>
    clear hfew
    go_wp2_with fail
    refine (awake11_any w2).mono ?_
    rintro e w3 ⟨rfl, hb3⟩
    have HX3 := Lib.hid (HX2.out.trans (hb3.mono HX2.out.size))
    clear hb3
    go_wp2_with fail
    go_ret
    exact ⟨rfl, HX3.out⟩
  | true =>
    have hfw := hfew rfl
    have hfl : g.length ≤ 18 := by have := hfw.1; omega
    have HFW := Lib.hid hfw
    clear hfew hfw
    have HN := Lib.hid (show g.length ≤ 1000 by omega)
    obtain ⟨ii, hi1, hi2, hi3, hi4⟩ := info_in9
    have HII : Hid (Try.prog.info? 3 = some ii ∧ ii.zero = some (.int .i64 0) ∧ ii.size = 1 ∧ ii.bytes = 8) := Lib.hid ⟨hi1, hi2, hi3, hi4⟩
    clear hi1 hi2 hi3 hi4
    obtain ⟨ir, hr1, hr2, hr3, hr4⟩ := info_parts info_row9
    have HIR : Hid (Try.prog.info? 31 = some ir ∧ ir.zero = some (.slice none 0 0) ∧ ir.size = 1 ∧ ir.bytes = 24) := Lib.hid ⟨hr1, hr2, hr3, hr4⟩
    clear hr1 hr2 hr3 hr4
    go_wp2_with fail
    go_loopw [3, 4] (fun vo i wr => ∃ k : Nat, k ≤ g.length ∧ i = .int .i64 k ∧ Hid (GOwn wr w2.heap.size vo (g.take k)) ∧ Hid (Below w2.heap.size w2 wr)) (fun _ i _ => g.length - (intOf i).toNat)
    case atStart => exact ⟨0, Nat.zero_le _, rfl, Lib.hid ⟨[], rfl, (Hold.Apart.nil w2 w2.heap.size).empty 31 1⟩, Lib.hid (Below.refl _ _)⟩
    case round =>
    obtain ⟨k, hk, rfl, HGO, HBr⟩ := hrel
    by_cases hlt : k < g.length
    · obtain ⟨Ao, co, hvo⟩ := HGO.out.form
      rw [take_lenk hk] at hvo
      subst hvo
      obtain ⟨vs, hvs, hap⟩ := HGO.out
      rw [take_lenk hk] at hvs
      have HVS := Lib.hid hvs
      have HAP := Lib.hid hap
      obtain ⟨gk, hgk⟩ : ∃ x, g[k]? = some x := ⟨_, List.getElem?_eq_getElem hlt⟩
      have HXW := Lib.hid (HX2.out.trans (HBr.out.mono HX2.out.size))
      obtain ⟨b1, o1, rfl⟩ := addr_of9 HG.out (by omega)
      obtain ⟨c1, _, ⟨u1, rfl, kx⟩, n1⟩ := cell_of HG.out hgk HXW.out
      obtain ⟨A3, k3, rfl⟩ := Row.form kx
      have m1 := n1 _ rfl
      have hgl2 : gk.length ≤ 20 := HFW.out.2 gk (List.mem_of_getElem? hgk)
      have KX := Lib.hid kx
      have HGK := Lib.hid hgk
      have hbs := HXW.out.size
      have hb2 := HBr.out.size
      have m2 := ((alloc_up wr (.cells #[] 3)).cell (p := ⟨b1, o1 + k, none⟩) (World.block_lt_of_cell? wr _ m1)).trans m1
      have HE := Lib.hid (show (wr.alloc (.cells #[] 3)).ownsRow wr.heap.size 3 1 (.slice (some ⟨wr.heap.size, 0, none⟩) 0 0) 0 [] by
        have := World.ownsRow_lit (base := wr.heap.size) (e := 3) (size := 1) wr #[] 0 (Nat.le_refl _) (by unfold maxLen; omega) rfl
        simpa using this)
      have HXE := Lib.hid (HXW.out.trans ((alloc_up wr (.cells #[] 3)).mono hbs))
      have hE2 : wr.heap.size ≤ (wr.alloc (.cells #[] 3)).heap.size := by simp
      have KX2 := Lib.hid (show Ints 0 w.heap.size (wr.alloc (.cells #[] 3)) (.slice A3 gk.length k3) gk from Ints.move (Still.of_below HXE.out) (Ints.move (Still.wide _ (Nat.le_refl _) (Nat.le_refl _)) (by exact (Row.move kx (fun k _ _ => rfl) (Nat.le_refl _) (Nat.le_refl _) (fun _ _ h => h)))))
      clear hvs hap HGO n1 kx hgk
      by_cases h0 : gk.length = 0
      · obtain rfl : gk = [] := List.eq_nil_of_length_eq_zero h0
        have HAJ := Lib.hid ((HAP.out.join (R2 := [innR (.slice (some ⟨wr.heap.size, 0, none⟩) 0 0) []]) (alloc_up wr (.cells #[] 3)) (apart_one9 HE.out) hb2).perm (List.Perm.swap _ _ _))
        have HB27 := Lib.hid (HBr.out.trans ((alloc_up wr (.cells #[] 3)).mono hb2))
        have hs7 : w2.heap.size ≤ (wr.alloc (.cells #[] 3)).heap.size := Nat.le_trans hb2 hE2
        go_wp2_with (first | (at_builtin; refine wpList_app_zero rfl _ _ 31 rfl wr.heap.size 3 ii 1 Try.underlying31 HII.out.1 (.slice (some ⟨wr.heap.size, 0, none⟩) 0 0) 0 [] rfl HE.out A3 k3 rfl ?_) | (at_builtin; refine Hold.wpList_grow (R := innR (.slice (some ⟨wr.heap.size, 0, none⟩) 0 0) [] :: inn vs (g.take k)) rfl _ _ 22 rfl w2.heap.size (outR (.slice Ao k co) vs) ir _ 24 Try.underlying22 HIR.out.1 HIR.out.2.1 HIR.out.2.2.1 HIR.out.2.2.2 rfl Nat.one_pos rfl HAJ.out [.slice (some ⟨wr.heap.size, 0, none⟩) 0 0] _ (by simp) rfl rfl (by intro u hu; rw [List.mem_singleton] at hu; subst hu; rfl) (by show vs.length + 1 ≤ _; have := HVS.out; omega) (by show (vs.length + 1) * 24 ≤ _; have := HVS.out; omega) hs7 ?_; intro v8 w8 hA8 hB8; have HG8 := Lib.hid (GOwn.snoc (by rw [HVS.out, take_lenk hk]) hA8); have HB8 := Lib.hid (HB27.out.trans hB8); clear hA8 hB8))
        rw [show g.take k ++ [[]] = g.take (k + 1) from take_next HGK.out] at HG8
        go_roundw
        case rel => exact ⟨k + 1, by omega, by go_num, HG8, HB8⟩
        case measure => simp [intOf]; omega
      · obtain ⟨b2, o2, rfl⟩ := addr_of9 KX.out (by omega)
        have hgl0 : 0 < gk.length := by omega
        clear h0
        go_wp2_with (first | (at_builtin; refine read_own9 rfl _ _ 31 rfl wr.heap.size 3 _ 1 8 Try.underlying31 info_int9 rfl (by decide) (.slice (some ⟨wr.heap.size, 0, none⟩) 0 0) 0 [] rfl HE.out b2 o2 gk.length k3 (iC gk) rfl (by simp [iC]) (row_cells9 KX2.out) (by intro u hu; obtain ⟨b, _, rfl⟩ := List.mem_map.1 hu; rfl) (by unfold maxLen; omega) (by omega) hE2 ?_; intro v7 w7 hown7 hg7; have hB7 := ((alloc_up wr (.cells #[] 3)).grown hg7 hE2 (fun q hq => (HE.out.lt q hq).1)); obtain ⟨A7, c7, e7⟩ := any9 hown7; rw [Nat.zero_add] at e7; subst e7; have HN7 := Lib.hid (show w7.ownsRow wr.heap.size 3 1 (.slice A7 gk.length c7) gk.length (iC gk) by have := hown7; simpa using this); have HAJ := Lib.hid ((HAP.out.join (R2 := [innR (.slice A7 gk.length c7) gk]) hB7 (apart_one9 HN7.out) hb2).perm (List.Perm.swap _ _ _)); have HB27 := Lib.hid (HBr.out.trans (hB7.mono hb2)); have hs7 := HB27.out.size; clear hown7 hg7 hB7) | (at_builtin; refine Hold.wpList_grow (R := innR (.slice A7 gk.length c7) gk :: inn vs (g.take k)) rfl _ _ 22 rfl w2.heap.size (outR (.slice Ao k co) vs) ir _ 24 Try.underlying22 HIR.out.1 HIR.out.2.1 HIR.out.2.2.1 HIR.out.2.2.2 rfl Nat.one_pos rfl HAJ.out [.slice A7 gk.length c7] _ rfl rfl rfl (by intro u hu; rw [List.mem_singleton] at hu; subst hu; rfl) (by show vs.length + 1 ≤ _; have := HVS.out; omega) (by show (vs.length + 1) * 24 ≤ _; have := HVS.out; omega) hs7 ?_; intro v8 w8 hA8 hB8; have HG8 := Lib.hid (GOwn.snoc (by rw [HVS.out, take_lenk hk]) hA8); have HB8 := Lib.hid (HB27.out.trans hB8); clear hA8 hB8))
        rw [show g.take k ++ [gk] = g.take (k + 1) from take_next HGK.out] at HG8
        go_roundw
        case rel => exact ⟨k + 1, by omega, by go_num, HG8, HB8⟩
        case measure => simp [intOf]; omega
    · have hke : k = g.length := by omega
      rw [hke, List.take_of_length_le (Nat.le_refl _)] at HGO
      clear hke
      obtain ⟨Aw, cw, hvw⟩ := HGO.out.form
      subst hvw
      have HXW := Lib.hid (HX2.out.trans (HBr.out.mono HX2.out.size))
      obtain ⟨wa, hwae⟩ : ∃ wa, wa = wr := ⟨_, rfl⟩
      subst hwae
      go_wp2_with fail
      have HWG := Lib.hid (HGO.out.graph (Nat.le_refl _) (by omega) (fun l hl => by have := HFW.out.2 l hl; omega))
      have hwa := HXW.out.size
      have HFL := Lib.hid (loops_few g)
      refine (lall_any 0 w.heap.size wa _ g (Graph.move (Still.of_below HXW.out) HG.out) HXW.out.size (by omega)).mono ?_
      rintro e w5 ⟨vl, rfl, ho, hb⟩
      obtain ⟨L9, hL9⟩ : ∃ L9, loopsV g = L9 := ⟨_, rfl⟩
      rw [hL9] at ho HFL
      obtain ⟨vs, hvs, hap⟩ := ho
      obtain ⟨Al, kl, e9⟩ := hap.head.form
      simp only at e9
      subst e9
      have HVS := Lib.hid hvs
      have HEL := Lib.hid hL9
      have HAP := Lib.hid (show Hold.Apart w5 wa.heap.size (outL 33 (.slice Al L9.length kl) vs L9 :: innI vs (L9.map fun x => (casts x.2.1, casts x.2.2))) by rw [innI_of]; exact hap)
      have HU5 := Lib.hid hb
      have hw5 := hb.size
      have hl9 := HFL.out.1
      clear hvs hap hb HGO hL9
      go_wp2_with fail
      go_loopw [6] (fun iv wr => ∃ (k : Nat) (M : List (List Int × List Int)), k ≤ L9.length ∧ iv = .int .i64 k ∧ Hid (ShL L9 M) ∧ Hid (Hold.Apart wr wa.heap.size (outL 33 (.slice Al L9.length kl) vs L9 :: innI vs M)) ∧ Hid (Below wa.heap.size wa wr)) (fun iv _ => L9.length - (intOf iv).toNat)
      case atStart => exact ⟨0, _, Nat.zero_le _, rfl, Lib.hid (ShL.start _), HAP, HU5⟩
      case round =>
      obtain ⟨k, M, hk, rfl, HSH, HAP, HU⟩ := hrel
      by_cases hlt : k < L9.length
      · obtain ⟨y, hy⟩ : ∃ y, L9[k]? = some y := ⟨_, List.getElem?_eq_getElem hlt⟩
        obtain ⟨p, hp⟩ : ∃ p, vs[k]? = some p := ⟨_, List.getElem?_eq_getElem (by rw [HVS.out]; exact hlt)⟩
        obtain ⟨gl, kl9, e9, _, _⟩ := lcells HAP.out hp hy
        simp only [Value.slice.injEq, true_and] at e9
        obtain ⟨rfl, rfl⟩ := e9
        have hyl := HFL.out.2 y (List.mem_of_getElem? hy)
        have HY := Lib.hid hy
        have HP := Lib.hid hp
        clear hy hp
        go_wp2_with fail
        go_loopw [7] (fun jv wr => ∃ (j : Nat) (M : List (List Int × List Int)), j ≤ y.2.1.length ∧ jv = .int .i64 j ∧ Hid (ShL L9 M) ∧ Hid (Hold.Apart wr wa.heap.size (outL 33 (.slice (some ⟨gl, 0, none⟩) L9.length kl) vs L9 :: innI vs M)) ∧ Hid (Below wa.heap.size wa wr)) (fun jv _ => y.2.1.length - (intOf jv).toNat)
        case atStart => exact ⟨0, M, Nat.zero_le _, rfl, HSH, HAP, HU⟩
        case round =>
        obtain ⟨j, M, hj, rfl, HSH, HAP, HU⟩ := hrel
        obtain ⟨x, hx, hx1, hx2⟩ := HSH.out.at HY.out
        obtain ⟨g9, c9, e9, c1, c2⟩ := lcells HAP.out HP.out HY.out
        simp only [Value.slice.injEq, Option.some.injEq, Addr.mk.injEq, and_true, true_and] at e9
        obtain ⟨rfl, rfl⟩ := e9
        have HX := Lib.hid hx
        have HX1 := Lib.hid hx1
        have HX2x := Lib.hid hx2
        clear hx hx1 hx2
        by_cases hlt2 : j < y.2.1.length
        · obtain ⟨b, c, e9, hb1, hb2, ⟨z, hz⟩, hb4, hb5⟩ := lstore1 HAP.out HP.out HX.out (j := j) (by rw [HX1.out]; exact hlt2)
          rw [HX1.out] at e9
          rw [e9] at c1
          have HAP2 := Lib.hid (hb5 (-7))
          have HU2 := Lib.hid (HU.out.setCell (p := ⟨b, j, none⟩) hb1 (i64 (-7)))
          have HSH2 := Lib.hid (HSH.out.set (x' := (x.1.set j (-7), x.2)) HX.out (by simp) (by simp))
          clear hb5 e9
          go_wp2_with fail
          go_roundw
          case rel => exact ⟨j + 1, _, by omega, by go_num, HSH2, HAP2, HU2⟩
          case measure => simp [intOf]; omega
        · obtain ⟨⟨B1, k1, f1⟩, B2, k2, f2⟩ := lforms HAP.out HP.out HX.out
          rw [f1, HX1.out] at c1
          rw [f2, HX2x.out] at c2
          clear f1 f2
          go_wp2_with fail
          go_loopw [8] (fun jv wr => ∃ (j : Nat) (M : List (List Int × List Int)), j ≤ y.2.2.length ∧ jv = .int .i64 j ∧ Hid (ShL L9 M) ∧ Hid (Hold.Apart wr wa.heap.size (outL 33 (.slice (some ⟨gl, 0, none⟩) L9.length kl) vs L9 :: innI vs M)) ∧ Hid (Below wa.heap.size wa wr)) (fun jv _ => y.2.2.length - (intOf jv).toNat)
          case atStart => exact ⟨0, M, Nat.zero_le _, rfl, HSH, HAP, HU⟩
          case round =>
          obtain ⟨j, M, hj, rfl, HSH, HAP, HU⟩ := hrel
          obtain ⟨x, hx, hx1, hx2⟩ := HSH.out.at HY.out
          obtain ⟨g9, c9, e9, c1, c2⟩ := lcells HAP.out HP.out HY.out
          simp only [Value.slice.injEq, Option.some.injEq, Addr.mk.injEq, and_true, true_and] at e9
          obtain ⟨rfl, rfl⟩ := e9
          have HX := Lib.hid hx
          have HX1 := Lib.hid hx1
          have HX2x := Lib.hid hx2
          clear hx hx1 hx2
          by_cases hlt2 : j < y.2.2.length
          · obtain ⟨b, c, e9, hb1, hb2, ⟨z, hz⟩, hb4, hb5⟩ := lstore2 HAP.out HP.out HX.out (j := j) (by rw [HX2x.out]; exact hlt2)
            rw [HX2x.out] at e9
            rw [e9] at c2
            have HAP2 := Lib.hid (hb5 (-7))
            have HU2 := Lib.hid (HU.out.setCell (p := ⟨b, j, none⟩) hb1 (i64 (-7)))
            have HSH2 := Lib.hid (HSH.out.set (x' := (x.1, x.2.set j (-7))) HX.out (by simp) (by simp))
            clear hb5 e9
            go_wp2_with fail
            go_roundw
            case rel => exact ⟨j + 1, _, by omega, by go_num, HSH2, HAP2, HU2⟩
            case measure => simp [intOf]; omega
          · obtain ⟨⟨B1, k1, f1⟩, B2, k2, f2⟩ := lforms HAP.out HP.out HX.out
            rw [f1, HX1.out] at c1
            rw [f2, HX2x.out] at c2
            clear f1 f2
            go_wp2_with fail
            go_roundw
            case rel => exact ⟨k + 1, M, by omega, by go_num, HSH, HAP, HU⟩
            case measure => simp [intOf]; omega
      · have HXE := Lib.hid (HXW.out.trans (HU.out.mono hwa))
        have HGE := Lib.hid (Graph.move (Still.of_below HXE.out) HG.out)
        have HWE := Lib.hid (Graph.move (still_up HU.out HU.out.size) HWG.out)
        have hxs := HXE.out.size
        go_wp2_with fail
        refine (yes9 (lists_any 0 wr.heap.size wr _ _ g g (Graph.move (Still.wide _ (Nat.le_refl _) hxs) HGE.out) HWE.out (Nat.le_refl _)) rfl).mono ?_
        rintro e w8 ⟨rfl, hb⟩
        have HX8 := Lib.hid (HXE.out.trans (hb.mono hxs))
        clear hb
        go_wp2_with fail
        refine (lall_any 0 w.heap.size w8 _ g (Graph.move (Still.of_below HX8.out) HG.out) HX8.out.size (by omega)).mono ?_
        rintro e w9 ⟨v9, rfl, ho, hb⟩
        rw [HEL.out] at ho
        have HX9 := Lib.hid (HX8.out.trans (hb.mono HX8.out.size))
        have HR9 := Lib.hid (ho.read (hi := w9.heap.size) (Nat.le_refl _) HFL.out (by omega))
        obtain ⟨A9, k9, e9⟩ := Row.form HR9.out
        subst e9
        clear ho hb
        go_wp2_with fail
        refine (back_any 0 w9.heap.size w9 _ L9 HR9.out (Nat.le_refl _) (by omega)).mono ?_
        rintro e w4 ⟨v4, rfl, ho, hb⟩
        have HX4 := Lib.hid (HX9.out.trans (hb.mono HX9.out.size))
        have HR4 := Lib.hid ho
        obtain ⟨A4, k4, e4⟩ := Row.form HR4.out
        subst e4
        clear ho hb
        go_wp2_with fail
        refine (rall_any 0 w.heap.size w4 _ g (Graph.move (Still.of_below HX4.out) HG.out) HX4.out.size (by omega) (fun l hl => by have := HFW.out.2 l hl; omega)).mono ?_
        rintro e w7 ⟨v7, rfl, ho, hb⟩
        rw [HEL.out] at ho
        have HX7 := Lib.hid (HX4.out.trans (hb.mono HX4.out.size))
        have HR7 := Lib.hid (ho.read (hi := w7.heap.size) (Nat.le_refl _) HFL.out (by omega))
        have HR47 := Lib.hid (LRead.move (lo' := 0) (hi' := w7.heap.size) ⟨fun k _ hk => hb.block k hk, Nat.zero_le _, hb.size⟩ HR4.out)
        obtain ⟨A7, k7, e7⟩ := Row.form HR7.out
        subst e7
        clear ho hb
        go_wp2_with fail
        refine (lsame_any 0 w7.heap.size w7 _ _ L9 HR47.out HR7.out (Nat.le_refl _)).mono ?_
        rintro e w6 ⟨rfl, hb⟩
        have HX6 := Lib.hid (HX7.out.trans (hb.mono HX7.out.size))
        clear hb
        go_wp2_with fail
        go_ret
        exact ⟨rfl, HX6.out⟩

set_option maxRecDepth 100000 in
theorem lifted (os : Os) (started : os.Started) (H : Type) (enc : TypeId × Value → H) :
    ReturnsInHanded {} Try.checked os 4 .any (Rows.loopsKeepsSpec.pre6 enc Try.prog Try.f4 Rows.loopsKeepsRow.domain false) (Rows.loopsKeepsSpec.post enc Try.prog Try.f4 false true false false) := by
  refine returnsInHanded_of_change_sized (C := Try.checked) (by kernel_rfl) started (by kernel_rfl) Try.func4
    (ChangeSpec.witness6 (enc := enc) (C := Try.checked) false ⟨#[], #[.slice none 0 0], []⟩ 8 (by kernel_rfl) (by kernel_rfl) (by kernel_rfl) (by kernel_rfl)) ?_
  intro W base args ds gs before hval0 hW hcnd hsz0 _
  have hval : ∀ (j : Nat) t v, Try.f4.params[j]? = some t → args[j]? = some v → Value.okWide Try.prog W .any base t v := hval0
  have hW' := hW
  obtain ⟨p, q, hA0, hV, rfl, hfz, hnd⟩ := hW
  have hsz : (DataW.weightsEach Try.prog (Try.f4.params.toList ++ Rows.loopsKeepsSpec.plain.varTypes Try.prog) (ds ++ gs)).all (· ≤ reachBytes) = true := hsz0
  have hA : DataW.TrodAll enc Try.prog W 0 (fun _ => true) true Try.f4.params.toList args.toList ds p := hA0
  rw [Try.params4] at hA hval hsz
  obtain ⟨v0, vs0, d0, ds0, p0, q0, hargs, rfl, rfl, h0, r0⟩ := trodAll_cons hA
  obtain ⟨rfl, rfl, rfl⟩ := trodAll_nil r0
  obtain rfl : args = #[v0] := by cases args; simp_all
  obtain ⟨rfl, rfl⟩ := trodVars_none hV
  obtain ⟨xs0, hG0⟩ := OpenG.open_graph hsz (j := 0) rfl rfl (hval 0 22 v0 rfl rfl) h0
  clear hA0 hval0
  simp only [List.append_nil] at hW'
  refine (walk v0 xs0 hG0).mono fun e W' ⟨he, hg⟩ => ?_
  subst he
  exact ⟨_, rfl, Shell.lawPost (by kernel_rfl) rfl (by kernel_rfl) rfl Try.underlying4 hW' rfl hg⟩

/-- The statement. -/
theorem proved : Rows.LoopsKeepsSaid :=
  OpenClaim.holds_of_wide 4 Try.f4 rfl rfl rfl rfl rfl rfl rfl ⟨rfl, rfl, rfl, rfl, rfl⟩ rfl rfl rfl rfl rfl (by kernel_rfl) Try.func4 (by kernel_rfl)
    (of_decide_eq_true (by kernel_rfl)) (by unfold Func.isWrapper; first | (rw [if_pos (by decide +kernel)]; kernel_rfl) | (rw [if_neg (by decide +kernel)]; exact ⟨rfl, rfl⟩))
    (fun os started H enc _ => lifted os started H enc)
end Go.Proofs.Ytiohngbmddfgfaa.loopsKeeps
