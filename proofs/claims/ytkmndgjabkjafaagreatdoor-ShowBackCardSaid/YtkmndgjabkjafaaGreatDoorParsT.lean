/-
  Package syntax: Parse.
  Programs that can be written, plainly: what is right of each part, and its lines.
  Package syntax: Of, whatever number.
-/
import Derived.Test.YtkmndgjabkjafaaGreatDoorReadT
import Derived.Test.YtkmndgjabkjafaaGreatDoorPlainN
import Derived.Test.YtkmndgjabkjafaaGreatDoorCallsL
namespace Go.Proofs.YtkmndgjabkjafaaGreatDoor.Rd5
open Go.RowKit Api Hold Mem Syn WordM Tree LinesM

variable {w w' w1 w2 : World} {lo hi rb base N : Nat} {p : Prog}
/-- A text: the program; or a line's number and the error. -/
def textE (s : List UInt8) : Except (Nat × Int) Prog := if (splitV s).2.2 ≠ 0 then .error ((splitV s).2.1, ((splitV s).2.2 : Int)) else parseE (splitV s).1
def zeroP : List Value := [.bool false, .slice none 0 0, .slice none 0 0, .slice none 0 0, .slice none 0 0]
/-- What Parse leaves. -/
def ParsP (w : World) (r : Except (Nat × Int) Prog) (e : Ending) (w' : World) : Prop :=
  Below w.heap.size w w' ∧ match r with
  | .error x => e = .returned (.tuple #[.agg zeroP.toArray, i64 (x.1 : Int), i64 x.2])
  | .ok p => ∃ cs, e = .returned (.tuple #[.agg cs.toArray, i64 0, i64 0]) ∧ Api.ProgC w.heap.size w'.heap.size w' cs p
theorem add_at (g j : Nat) : (⟨g, 0, none⟩ : Addr).add j = ⟨g, 0 + j, none⟩ := by unfold Addr.add; split <;> simp_all
theorem lines_at {v : Value} {xs : List ML} {o : List Ln} (h : OwnLins 102 9 lo w.heap.size w v xs) (he : xs.map line = lns o) (hn : xs.length ≤ 4194305) (hs : ∀ x ∈ o, x.2 ≠ [] ∧ x.2.length ≤ 4194304 ∧ ∀ y ∈ x.2, y.length ≤ 4194304) :
    ∃ A cap b off, v = .slice A o.length cap ∧ (0 < o.length → A = some ⟨b, off, none⟩) ∧ LinsR lo w.heap.size w b off o := by
  have hl : xs.length = o.length := by have := congrArg List.length he; simpa [lns] using this
  obtain ⟨A, n, cap, b, off, rfl, h1, h2, h3, h4⟩ := h.lins (by omega)
  refine ⟨A, cap, b, off, by rw [h1, hl], fun h0 => (h3 (by omega)).1, fun i x hx => ?_⟩
  have hi := (List.getElem?_eq_some_iff.1 hx).1
  obtain ⟨y, hy⟩ : ∃ y, xs[i]? = some y := ⟨xs[i]'(by omega), List.getElem?_eq_getElem (by omega)⟩
  obtain ⟨c1, c2, c3⟩ := h4 i y hy
  obtain ⟨_, k1, k2⟩ := h3 (by omega)
  have e1 : line y = ((x.1 : Int), x.2) := by
    have := congrArg (fun l => l[i]?) he
    simp only [lns, List.getElem?_map, hx, hy, Option.map_some, Option.some.injEq] at this
    exact this
  have e2 : y.1 = (x.1 : Int) := congrArg Prod.fst e1
  have e3 : y.2.2 = x.2 := congrArg Prod.snd e1
  obtain ⟨s1, s2, s3⟩ := hs x (List.mem_of_getElem? hx)
  have ho := (h.2 y (List.mem_of_getElem? hy)).1
  rw [e3] at ho
  refine ⟨y.2.1, k1, k2, by rw [← e2]; exact c1, c2, ?_, ?_, s1, s2⟩
  · rcases ho.2 with ⟨hv, _⟩ | ⟨g, cap, cur, hv, _⟩ <;> rw [hv] <;> rfl
  · have hlen := ho.1
    rw [strs_length] at hlen
    rcases ho.2 with ⟨hv, hz⟩ | ⟨g, cap, cur, hv, hb, hg, hnc, hcm, _⟩
    · exact ⟨none, _, _, 0, 0, hv, by omega, by omega, by omega, fun h => by omega, fun i z hz' => by have := (List.getElem?_eq_some_iff.1 hz').1; omega, s3⟩
    · refine ⟨_, _, _, g, 0, hv, rfl, hnc, by unfold maxLen at hcm; omega, fun _ => ⟨rfl, hb, (Array.getElem?_eq_some_iff.1 hg).1⟩, fun j z hz => ?_, s3⟩
      have d := ho.cells (g := g) (by rw [hv]; rfl) j (str z) (by unfold strs; rw [List.getElem?_map, hz]; rfl)
      rw [add_at] at d
      exact d
theorem res_cells {b : Nat} {t : TypeId} {a0 a1 a2 a3 a4 : Value} (h : Own w b t [a0, a1, a2, a3, a4]) :
    (w.cell? ⟨b, 0, none⟩ = some a0 ∧ w.cell? ⟨b, 1, none⟩ = some a1 ∧ w.cell? ⟨b, 2, none⟩ = some a2 ∧ w.cell? ⟨b, 3, none⟩ = some a3 ∧ w.cell? ⟨b, 4, none⟩ = some a4) ∧
    (w.frozen? ⟨b, 0, none⟩ = false ∧ w.frozen? ⟨b, 1, none⟩ = false ∧ w.frozen? ⟨b, 2, none⟩ = false ∧ w.frozen? ⟨b, 3, none⟩ = false ∧ w.frozen? ⟨b, 4, none⟩ = false) :=
  ⟨⟨h.cell 0, h.cell 1, h.cell 2, h.cell 3, h.cell 4⟩, ⟨h.thaw 0, h.thaw 1, h.thaw 2, h.thaw 3, h.thaw 4⟩⟩
theorem zero_own (w : World) (t : TypeId) (hb : Below (w.alloc (.cells #[.bool false, .slice none 0 0, .slice none 0 0, .slice none 0 0, .slice none 0 0] t)).heap.size (w.alloc (.cells #[.bool false, .slice none 0 0, .slice none 0 0, .slice none 0 0, .slice none 0 0] t)) w1) : Own w1 w.heap.size t [.bool false, .slice none 0 0, .slice none 0 0, .slice none 0 0, .slice none 0 0] :=
  (Own.made w t [.bool false, .slice none 0 0, .slice none 0 0, .slice none 0 0, .slice none 0 0]).below hb (by simp)
theorem results_cell_tmp2 {fn : Func} {p u x : Tmp} {ty : TypeId} (h : fn.results = #[.cell p ty, .tmp u, .tmp x]) (tmps : Array Value) (P : Program) (w : World) :
    (results fn tmps).run P w =
      ((asAddr (tmps.getD p undef)).run P w).andThen fun a w₁ => ((loadVar ty a).run P w₁).andThen fun v w₂ => .ok (.tuple #[v, tmps.getD u undef, tmps.getD x undef]) w₂ := by
  simp only [results, h]
  simp [Sem.run_bind, Result.andThen]
theorem five_below {b : Nat} {v0 v1 v2 v3 v4 : Value} (h : Below b w w1) : Below b w (((((w1.setCell ⟨b, 0, none⟩ v0).setCell ⟨b, 1, none⟩ v1).setCell ⟨b, 2, none⟩ v2).setCell ⟨b, 3, none⟩ v3).setCell ⟨b, 4, none⟩ v4) :=
  ((((h.setCell (p := ⟨b, 0, none⟩) (Nat.le_refl _) _).setCell (p := ⟨b, 1, none⟩) (Nat.le_refl _) _).setCell (p := ⟨b, 2, none⟩) (Nat.le_refl _) _).setCell (p := ⟨b, 3, none⟩) (Nat.le_refl _) _).setCell (p := ⟨b, 4, none⟩) (Nat.le_refl _) _
theorem five_size {b : Nat} {v0 v1 v2 v3 v4 : Value} : (((((w1.setCell ⟨b, 0, none⟩ v0).setCell ⟨b, 1, none⟩ v1).setCell ⟨b, 2, none⟩ v2).setCell ⟨b, 3, none⟩ v3).setCell ⟨b, 4, none⟩ v4).heap.size = w1.heap.size := by simp [World.setCell]
theorem five_far {b k : Nat} {v0 v1 v2 v3 v4 : Value} (hk : k ≠ b) : (((((w1.setCell ⟨b, 0, none⟩ v0).setCell ⟨b, 1, none⟩ v1).setCell ⟨b, 2, none⟩ v2).setCell ⟨b, 3, none⟩ v3).setCell ⟨b, 4, none⟩ v4).heap[k]? = w1.heap[k]? := by
  rw [Below.heap_setCell _ _ _ _ hk, Below.heap_setCell _ _ _ _ hk, Below.heap_setCell _ _ _ _ hk, Below.heap_setCell _ _ _ _ hk, Below.heap_setCell _ _ _ _ hk]
theorem lineE_err {o : Out} {k : Int} (h : lineE o = .error k) : k = 2 ∨ k = 3 := by
  unfold lineE at h
  repeat' split at h
  all_goals first | (cases h; done) | (injection h with h; omega)
theorem readE_errs {s : Prog × Int × Int} {l : List (Nat × List Api.Wd)} {x : Nat × Int} (h : readE s l = .error x) : x.2 = 2 ∨ x.2 = 3 := by
  induction l generalizing s with
  | nil => cases h
  | cons y l ih =>
    obtain ⟨k, ws⟩ := y
    simp only [readE] at h
    cases hE : lineE (lineO s.1 s.2.1 s.2.2 (ws.headD []) ws.tail) with
    | error e => rw [hE] at h; injection h with h; subst h; exact lineE_err hE
    | ok s' => rw [hE] at h; exact ih h
theorem parseE_errs {l : List (Nat × List Api.Wd)} {x : Nat × Int} (h : parseE l = .error x) : x.2 = 2 ∨ x.2 = 3 := by
  unfold parseE at h
  cases hR : readE (⟨false, [], [], [], []⟩, 1, 0) l with
  | error e => rw [hR] at h; injection h with h; subst h; exact readE_errs hR
  | ok s =>
    rw [hR] at h
    simp only at h
    split at h
    · cases h
    · injection h with h; subst h; exact .inr rfl
theorem readP_err {l : List (Nat × List Api.Wd)} {x : Nat × Int} {e : Ending} (h : ReadP base rb lo hi w l e w') (hp : parseE l = .error x) : e = .returned (.tuple #[i64 (x.1 : Int), i64 x.2]) ∧ Beside base rb w w' := by
  obtain ⟨h1, h2⟩ := h
  rw [hp] at h2
  exact ⟨h2, h1⟩
theorem readP_ok {l : List (Nat × List Api.Wd)} {e : Ending} (h : ReadP base rb lo hi w l e w') (hp : parseE l = .ok p) : e = .returned (.tuple #[i64 0, i64 0]) ∧ Beside base rb w w' ∧ ∃ rc a D N B, w.heap.size ≤ B ∧ St w' B rb lo hi rc a D p N [] := by
  obtain ⟨h1, h2⟩ := h
  rw [hp] at h2
  exact ⟨h2.1, h1, h2.2⟩
theorem own_beside {g : Nat} {t : TypeId} {cs : List Value} (h : Own w g t cs) (hb : Beside base rb w w1) (h1 : g < base) (h2 : g ≠ rb) : Own w1 g t cs := (hb.block g h1 h2).trans h
theorem below_of_beside {b : Nat} {x : Obj} (h : Below b w w1) (h2 : Beside (w1.alloc x).heap.size w1.heap.size (w1.alloc x) w2) (hb : b ≤ w1.heap.size) : Below b w w2 :=
  (h.alloc hb x).trans ⟨h2.os, h2.tape, h2.output, h2.size, fun k hk => h2.block k (by simp; omega) (by omega)⟩
theorem own_al {g : Nat} {t : TypeId} {cs : List Value} (h : Own w g t cs) (x : Obj) : Own (w.alloc x) g t cs := (heap_alloc_old w x (Array.getElem?_eq_some_iff.1 h).1).trans h
theorem z_below {x : Obj} (hb : Below (w.alloc x).heap.size (w.alloc x) w1) : Below w.heap.size w w1 := ((Below.refl w.heap.size w).alloc (Nat.le_refl _) x).trans (hb.mono (by simp))
theorem z_size {x : Obj} (hb : Below (w.alloc x).heap.size (w.alloc x) w1) : w.heap.size < w1.heap.size := by
  have h1 := hb.size
  have h2 : (w.alloc x).heap.size = w.heap.size + 1 := by simp
  omega
theorem res_beside {g : Nat} {t : TypeId} {cs : List Value} {x : Obj} (h : Own w1 g t cs) (hb : Beside (w1.alloc x).heap.size w1.heap.size (w1.alloc x) w2) (hg : g < w1.heap.size) : Own w2 g t cs := own_beside (own_al h x) hb (by simp; omega) (by omega)
theorem pars_read {A : Option Addr} {cap b off : Nat} {o : List Ln} {xs : List ML} (hb : Below (w.alloc (.cells #[.bool false, .slice none 0 0, .slice none 0 0, .slice none 0 0, .slice none 0 0] 27)).heap.size (w.alloc (.cells #[.bool false, .slice none 0 0, .slice none 0 0, .slice none 0 0, .slice none 0 0] 27)) w1) (hL : LaidS w) (hA : 0 < o.length → A = some ⟨b, off, none⟩) (hl : LinsR lo w1.heap.size w1 b off o) (hx : xs.map line = lns o) (hxn : xs.length ≤ 4194305) :
    Calls Tryz.prog 17 #[ptr w1.heap.size, .slice A o.length cap] (w1.alloc (.cells #[.bool false, .slice none 0 0, .slice none 0 0, .slice none 0 0, .slice none 0 0, .int .i64 1, .int .i64 0, .string ⟨#[]⟩, .slice none 0 0, .bool false] 64)) (ReadP (w1.alloc (.cells #[.bool false, .slice none 0 0, .slice none 0 0, .slice none 0 0, .slice none 0 0, .int .i64 1, .int .i64 0, .string ⟨#[]⟩, .slice none 0 0, .bool false] 64)).heap.size w1.heap.size lo w1.heap.size (w1.alloc (.cells #[.bool false, .slice none 0 0, .slice none 0 0, .slice none 0 0, .slice none 0 0, .int .i64 1, .int .i64 0, .string ⟨#[]⟩, .slice none 0 0, .bool false] 64)) o) := by
  have hW : Below w.heap.size w w1 := ((Below.refl w.heap.size w).alloc (Nat.le_refl _) _).trans (hb.mono (by simp))
  have hsz := hW.size
  have hol : xs.length = o.length := by have := congrArg List.length hx; simpa [lns] using this
  have hLt := hL.lt
  exact read_any (Own.made w1 64 rc0.l) hA (hl.move fun k _ hk => heap_alloc_old w1 _ hk) (Nat.le_refl _) (hL.below (hW.alloc hsz _) (Nat.le_refl _)) (by omega) (by omega)
set_option maxRecDepth 100000 in
set_option maxHeartbeats 4000000 in
theorem pars_any (s : ByteArray) (w : World) (hs : s.size ≤ maxLen) (hL : LaidS w) :
    Calls Tryz.prog 7 #[.string s] w (ParsP w (textE s.data.toList)) := by
  have QS := Lib.hid (split_any s (w.alloc (.cells #[.bool false, .slice none 0 0, .slice none 0 0, .slice none 0 0, .slice none 0 0] 27)) hs)
  have HL := Lib.hid hL
  clear hL
  rcases hr : splitV s.data.toList with ⟨o, m, y⟩
  rw [hr] at QS
  by_cases hy : y = 0
  · subst hy
    have HE : Hid (textE s.data.toList = parseE o) := Lib.hid (by unfold textE; rw [hr]; simp)
    have HSM : Hid (∀ x ∈ o, x.2 ≠ [] ∧ x.2.length ≤ 4194304 ∧ ∀ y ∈ x.2, y.length ≤ 4194304) := Lib.hid (split_small hr (by
      unfold splitV at hr
      split at hr
      · simp at hr
      · omega))
    clear hr
    rcases hp : parseE o with x | p
    · have HP := Lib.hid hp
      have HX := parseE_errs hp
      have hx2 : (x.2 == 0) = false := by simp; omega
      obtain ⟨k, why⟩ := x
      simp only at hx2
      clear hp HX
      go_enter Tryz.func7, Tryz.ntmps7
      go_wp2_with (go_at_call 16; (with_reducible refine (QS.out).mono ?_); rintro e w1 ⟨v, xs, rfl, hx, hxn, hown, hb⟩; obtain ⟨A, cap, b, off, hv, hA, hl⟩ := lines_at hown hx hxn HSM.out; subst hv)
      have QR := Lib.hid (pars_read (cap := cap) hb HL.out hA hl hx hxn)
      have HZ := Lib.hid (zero_own w _ hb)
      have HW := Lib.hid (z_below hb)
      have HSZ := Lib.hid (z_size hb)
      clear hb hA hl hown hx
      refine (QR.out).mono ?_
      intro e w3 hR
      obtain ⟨rfl, hB3⟩ := readP_err hR HP.out
      obtain ⟨⟨d0, d1, d2, d3, d4⟩, z0, z1, z2, z3, z4⟩ := res_cells (res_beside HZ.out hB3 HSZ.out)
      have HB3 := Lib.hid hB3
      clear hB3 hR
      go_wp2
      refine bodyPost_ret (v := .tuple #[.agg #[.bool false, .slice none 0 0, .slice none 0 0, .slice none 0 0, .slice none 0 0], .int .i64 (k : Int), .int .i64 why]) (by rw [results_cell_tmp2 rfl]; go_simp) rfl ⟨five_below (below_of_beside HW.out HB3.out (Nat.le_of_lt HSZ.out)), ?_⟩
      rw [HE.out, HP.out]
      rfl
    · have HP := Lib.hid hp
      clear hp
      go_enter Tryz.func7, Tryz.ntmps7
      go_wp2_with (go_at_call 16; (with_reducible refine (QS.out).mono ?_); rintro e w1 ⟨v, xs, rfl, hx, hxn, hown, hb⟩; obtain ⟨A, cap, b, off, hv, hA, hl⟩ := lines_at hown hx hxn HSM.out; subst hv)
      have QR := Lib.hid (pars_read (cap := cap) hb HL.out hA hl hx hxn)
      have HZ := Lib.hid (zero_own w _ hb)
      have HW := Lib.hid (z_below hb)
      have HSZ := Lib.hid (z_size hb)
      clear hb hA hl hown hx
      refine (QR.out).mono ?_
      intro e w3 hR
      obtain ⟨rfl, hB3, rc, a, D, N, B, hBB, hS3⟩ := readP_ok hR HP.out
      obtain ⟨⟨d0, d1, d2, d3, d4⟩, z0, z1, z2, z3, z4⟩ := res_cells (res_beside HZ.out hB3 HSZ.out)
      obtain ⟨g0, g1, g2, g3, g4, _⟩ := hS3.cells
      obtain ⟨A1, k1, e1⟩ := LinesM.own_form (hS3.on (r := a.C) (by simp [Tree.Act.l]))
      obtain ⟨A2, k2, e2⟩ := LinesM.own_form (hS3.on (r := a.G) (by simp [Tree.Act.l]))
      obtain ⟨A3, k3, e3⟩ := LinesM.own_form (hS3.on (r := a.E) (by simp [Tree.Act.l]))
      obtain ⟨A4, k4, e4⟩ := LinesM.own_form (hS3.on (r := a.U) (by simp [Tree.Act.l]))
      rw [e1] at g1
      rw [e2] at g2
      rw [e3] at g3
      rw [e4] at g4
      have hpc := hS3.bld.sh.read hS3.bld.ap (Nat.le_refl _)
      rw [e1, e2, e3, e4] at hpc
      have HPC := Lib.hid hpc
      clear hpc e1 e2 e3 e4
      have HBB := Lib.hid hBB
      have HB3 := Lib.hid hB3
      clear hB3 hR hS3 hBB
      go_wp2
      refine bodyPost_ret (v := .tuple #[.agg #[.bool p.ssa, .slice A1 a.C.n k1, .slice A2 a.G.n k2, .slice A3 a.E.n k3, .slice A4 a.U.n k4], .int .i64 0, .int .i64 0]) (by rw [results_cell_tmp2 rfl]; go_simp) rfl ⟨five_below (below_of_beside HW.out HB3.out (Nat.le_of_lt HSZ.out)), ?_⟩
      rw [HE.out, HP.out]
      have hsz := HSZ.out
      have hbb := HBB.out
      refine ⟨[.bool p.ssa, .slice A1 a.C.n k1, .slice A2 a.G.n k2, .slice A3 a.E.n k3, .slice A4 a.U.n k4], rfl, ?_⟩
      refine (HPC.out).move ⟨fun q hq _ => five_far (by simp at hbb; omega), by simp at hbb; omega, by rw [five_size]; exact Nat.le_refl _⟩
  · have HT : Hid (textE s.data.toList = .error (m, (y : Int))) := Lib.hid (by unfold textE; rw [hr]; simp only; rw [if_pos hy])
    have hy2 : ((y : Int) == 0) = false := by simp; omega
    clear hr
    go_enter Tryz.func7, Tryz.ntmps7
    go_wp2_with (go_at_call 16; (with_reducible refine (QS.out).mono ?_); rintro e w1 ⟨v, xs, rfl, _, _, _, hb⟩; obtain ⟨⟨d0, d1, d2, d3, d4⟩, z0, z1, z2, z3, z4⟩ := res_cells (zero_own w _ hb); have HB := Lib.hid hb; clear hb)
    refine bodyPost_ret (v := .tuple #[.agg #[.bool false, .slice none 0 0, .slice none 0 0, .slice none 0 0, .slice none 0 0], .int .i64 (m : Int), .int .i64 (y : Int)]) (by rw [results_cell_tmp2 rfl]; go_simp) rfl ⟨five_below (((Below.refl _ _).alloc (Nat.le_refl _) _).trans ((HB.out).mono (by simp))), ?_⟩
    rw [HT.out]
    rfl
end Go.Proofs.YtkmndgjabkjafaaGreatDoor.Rd5

namespace Go.Proofs.YtkmndgjabkjafaaGreatDoor.Rd5
open Go.RowKit Api Syn WordM

/-! ### what is right of each part -/
def ofA (a : Arg) : A := (a.kind, ⟨a.s.toArray⟩, a.n)
def argR (a : Arg) : Bool := rightV (ofA a)
def argX (a : Arg) : Bool := (a.kind != 5) && rightV (ofA a)
def varR (v : Var) : Bool := nameV v.name && kindV v.type
def allR {α : Type} (most : Nat) (f : α → Bool) (l : List α) : Bool := decide (l.length ≤ most) && l.all f
def classR (c : Class) : Bool := nameV c.name && allR 8 varR c.fields
def externR (e : Extern) : Bool := nameV e.name && (decide (0 ≤ e.n) && decide (e.n ≤ 8))
def bindR (b : Bind) : Bool := nameV b.name && argR b.a
def inR (b : Bind) : Bool := nameV b.name && argX b.a
def phiR (p : Phi) : Bool := nameV p.dst && (decide (0 < p.ins.length) && allR 256 inR p.ins)
def frameR (f : Api.Frame) : Bool := nameV f.func && (nameV f.block && ((decide (0 ≤ f.pos) && decide (f.pos ≤ 1024)) && allR 16 bindR f.vars))
def virtR (v : Virt) : Bool := nameV v.cls && allR 8 argR v.vals
def noneR (s : Wd) (must : Bool) : Bool := if must then nameV s else s == []
def stateR (i : Instr) : Bool := if i.op ≠ 31 ∧ i.op ≠ 34 then (decide (i.frames.length = 0) && decide (i.objs.length = 0)) else (allR 16 frameR i.frames && allR 99 virtR i.objs)
def instrR (i : Instr) : Bool :=
  (formV i.op).2 && (noneR i.dst (formV i.op).1.dst && (noneR i.name (formV i.op).1.named && (decide ((formV i.op).1.least ≤ (i.args.length : Int)) && ((decide ((i.args.length : Int) ≤ (formV i.op).1.most) && i.args.all argX) && stateR i))))
def argN (a : Arg) : Bool := (a.kind == 0) && ((a.s == []) && (a.n == 0))
def destsR (n : Nat) (l : List Wd) : Bool := decide (l.length = n) && l.all nameV
def finR (t : Api.Term) : Bool :=
  if t.kind = 1 then argN t.a && (destsR 1 t.dest && (t.n == 0))
  else if t.kind = 2 then argX t.a && (destsR 2 t.dest && (t.n == 0))
  else if t.kind = 3 then argX t.a && (destsR 0 t.dest && (t.n == 0))
  else if t.kind = 4 then argN t.a && destsR 0 t.dest
  else false
def blockR (b : Api.Block) : Bool := nameV b.name && (allR 1024 phiR b.phis && (allR 1024 instrR b.code && finR b.fin))
def longB (b : Api.Block) : Nat := b.phis.length + b.code.length
def longF (l : List Api.Block) : Nat := (l.map longB).sum
def funcR (f : Api.Func) : Bool :=
  nameV f.name && (kindV f.result && (allR 6 varR f.params && (allR 1024 varR f.vars && ((decide (0 < f.blocks.length) && decide (longF f.blocks ≤ 1024)) && allR 256 blockR f.blocks))))
def progR (p : Prog) : Bool := allR 8 classR p.classes && (allR 8 varR p.globals && (allR 8 externR p.externs && allR 8 funcR p.funcs))

/-! ### numbers within their type -/
def argI (a : Arg) : Prop := NumM.In a.n
def instrI (i : Instr) : Prop := (∀ a ∈ i.args, argI a) ∧ (∀ f ∈ i.frames, ∀ b ∈ f.vars, argI b.a) ∧ (∀ o ∈ i.objs, ∀ a ∈ o.vals, argI a)
def phiI (p : Phi) : Prop := ∀ b ∈ p.ins, argI b.a
def finI (t : Api.Term) : Prop := argI t.a ∧ NumM.In t.n
def blockI (b : Api.Block) : Prop := (∀ p ∈ b.phis, phiI p) ∧ (∀ i ∈ b.code, instrI i) ∧ finI b.fin
def funcI (f : Api.Func) : Prop := ∀ b ∈ f.blocks, blockI b
def progI (p : Prog) : Prop := ∀ f ∈ p.funcs, funcI f

/-! ### lines -/
def putA (a : Arg) : Wd := wput (ofA a)
def varL (k : Wd) (v : Var) : List Wd := [k, v.name, v.type]
def classLs (c : Class) : List (List Wd) := [kClass, c.name] :: c.fields.map (varL kField)
def externL (e : Extern) : List Wd := [kExtern, e.name, NumM.dec e.n]
def bindL (b : Bind) : List Wd := [b.name, putA b.a]
def phiL (p : Phi) : List Wd := kPhi :: p.dst :: p.ins.flatMap bindL
def instrW (i : Instr) : List Wd := (opWords.getD i.op.toNat []) :: ((i.args.take (aheadV i.op)).map putA ++ ((if (formV i.op).1.named then [i.name] else []) ++ (i.args.drop (aheadV i.op)).map putA))
def instrL (i : Instr) : List Wd := if i.dst = [] then instrW i else i.dst :: kEq :: instrW i
def frameL (f : Api.Frame) : List Wd := kAt :: f.func :: f.block :: NumM.dec f.pos :: f.vars.flatMap bindL
def virtL (v : Virt) : List Wd := kObj :: v.cls :: v.vals.map putA
def instrLs (i : Instr) : List (List Wd) := instrL i :: (i.frames.map frameL ++ i.objs.map virtL)
def endL (t : Api.Term) : List Wd :=
  if t.kind = 1 then kJump :: t.dest else if t.kind = 2 then kBranch :: putA t.a :: t.dest else if t.kind = 3 then [kRet, putA t.a] else [kTrap, NumM.dec t.n]
/-- a block's lines but for its end's, if it has none yet. -/
def finLs (t : Api.Term) : List (List Wd) := if t.kind = 0 then [] else [endL t]
def blockLs (b : Api.Block) : List (List Wd) := [kBlock, b.name] :: (b.phis.map phiL ++ (b.code.flatMap instrLs ++ finLs b.fin))
def funcLs (f : Api.Func) : List (List Wd) := [kFunc, f.name, f.result] :: (f.params.map (varL kParam) ++ (f.vars.map (varL kVar) ++ f.blocks.flatMap blockLs))
def progLs (p : Prog) : List (List Wd) := (if p.ssa then [[kSsa]] else []) ++ (p.classes.flatMap classLs ++ (p.globals.map (varL kGlobal) ++ (p.externs.map externL ++ p.funcs.flatMap funcLs)))

/-! ### reading lines, whatever their numbers -/
abbrev RS := Prog × Int × Int
def step (s : RS) (ws : List Wd) : Option RS := match lineE (lineO s.1 s.2.1 s.2.2 (ws.headD []) ws.tail) with | .ok s' => some s' | .error _ => none
def readW : RS → List (List Wd) → Option RS
  | s, [] => some s
  | s, ws :: l => (step s ws).bind fun s' => readW s' l
theorem readW_append (s : RS) (a b : List (List Wd)) : readW s (a ++ b) = (readW s a).bind fun s' => readW s' b := by
  induction a generalizing s with
  | nil => rfl
  | cons x a ih =>
    simp only [List.cons_append, readW]
    cases step s x with
    | none => rfl
    | some s' => exact ih s'
theorem readW_cons {s s' : RS} {ws : List Wd} (h : step s ws = some s') (l : List (List Wd)) : readW s (ws :: l) = readW s' l := by
  simp only [readW, h, Option.bind_some]
theorem readW_app {s s' : RS} {a : List (List Wd)} (h : readW s a = some s') (b : List (List Wd)) : readW s (a ++ b) = readW s' b := by
  rw [readW_append, h]; rfl
theorem readE_ok {l : List (Nat × List Wd)} : ∀ {s s' : RS}, readE s l = .ok s' ↔ readW s (l.map fun x => x.2) = some s' := by
  induction l with
  | nil => intro s s'; simp [readE, readW]
  | cons x l ih =>
    intro s s'
    obtain ⟨k, ws⟩ := x
    simp only [readE, List.map_cons, readW, step]
    cases lineE (lineO s.1 s.2.1 s.2.2 (ws.headD []) ws.tail) with
    | error e => simp
    | ok s2 => simp only [Option.bind_some]; exact ih
theorem parseE_ok {l : List (Nat × List Wd)} {p : Prog} : parseE l = .ok p ↔ ∃ pl lg, readW (⟨false, [], [], [], []⟩, 1, 0) (l.map fun x => x.2) = some (p, pl, lg) ∧ stB pl 519 = true := by
  unfold parseE
  constructor
  · intro h
    cases hr : readE (⟨false, [], [], [], []⟩, 1, 0) l with
    | error e => rw [hr] at h; cases h
    | ok s =>
      obtain ⟨q, pl, lg⟩ := s
      rw [hr] at h
      simp only at h
      split at h
      · injection h with h; subst h; exact ⟨pl, lg, readE_ok.1 hr, by assumption⟩
      · cases h
  · rintro ⟨pl, lg, h, h2⟩
    rw [readE_ok.2 h]
    simp only
    rw [if_pos h2]
end Go.Proofs.YtkmndgjabkjafaaGreatDoor.Rd5

namespace Go.Proofs.YtkmndgjabkjafaaGreatDoor.Rd5
open Go.RowKit Api Syn WordM

theorem of_int (op : Int) (w : World) (hL : LaidS w) : Calls Tryz.prog 153 #[i64 op] w (OfR w op) := by
  by_cases h : op < 1 ∨ 34 < op
  · exact of_no op w h
  · obtain ⟨k, rfl⟩ : ∃ k : Nat, op = (k : Int) := ⟨op.toNat, by omega⟩
    exact of_yes k w hL ⟨by omega, by omega⟩
theorem of_as (op : Int) (z : ByteArray) (d m : Bool) (l k : Int) (b : Bool) (h : formV op = (⟨z.data.toList, d, m, l, k⟩, b)) (w : World) (hL : LaidS w) :
    Calls Tryz.prog 153 #[.int .i64 op] w fun e w' => e = .returned (.tuple #[.agg #[.string z, .bool d, .bool m, .int .i64 l, .int .i64 k], .bool b]) ∧ Below w.heap.size w w' := by
  have hz : (str z.data.toList : Value) = .string z := by show Value.string _ = _; rw [WordM.bytes_of]
  have := of_int op w hL
  unfold OfR at this
  rw [h] at this
  simp only at this
  rw [hz] at this
  exact this
end Go.Proofs.YtkmndgjabkjafaaGreatDoor.Rd5
