/-
  Package syntax: a block's end: end, jump, branch, ret, trap.
-/
import Derived.Test.YtkmndgjabkjafaaGreatDoorRdrT
namespace Go.Proofs.YtkmndgjabkjafaaGreatDoor.Rd5
open Go.RowKit Api Hold Mem Syn WordM Tree

variable {w w' w1 w2 : World} {lo hi rb base N : Nat} {rc : RC} {v : Value} {l ws : List Wd} {row : Option Nat} {a : Tree.Act} {D D2 : List Rec} {p : Prog}
theorem own6 {g : Nat} {t : TypeId} {u0 u1 u2 u3 u4 u5 : Value} (o : Own w g t [u0, u1, u2, u3, u4, u5]) : w.cell? ⟨g, 0, none⟩ = some u0 ∧ w.cell? ⟨g, 1, none⟩ = some u1 ∧ w.cell? ⟨g, 2, none⟩ = some u2 ∧ w.cell? ⟨g, 3, none⟩ = some u3 ∧ w.cell? ⟨g, 4, none⟩ = some u4 ∧ w.cell? ⟨g, 5, none⟩ = some u5 :=
  ⟨o.cell 0, o.cell 1, o.cell 2, o.cell 3, o.cell 4, o.cell 5⟩
theorem SameH.own (h : SameH w w') (hO : OwnR w rb rc) : OwnR w' rb rc := (congrArg (·[rb]?) h.1).trans hO
theorem node_form {α : Type} {t : TypeId} {size : Nat} {P : List Value → α → Prop} {v : Value} {xs : List α} (h : Tree.Node D t size P v xs) (hA : ∀ F ∈ D, F.on w base) : ∃ A n c, v = .slice A n c := by
  rcases h with ⟨rfl, _⟩ | ⟨F, hF, rfl, _⟩
  · exact ⟨_, _, _, rfl⟩
  · obtain ⟨A, c, e⟩ := (hA F hF).form
    exact ⟨A, _, c, e⟩
def finP (p : Prog) (t : Api.Term) : Prog := { p with funcs := Syn.last (fun x => { x with blocks := Syn.last (fun b => { b with fin := t }) x.blocks }) p.funcs }
def endD (p : Prog) (pl lg : Int) (ov : Bool) (t : Api.Term) (ws : List Wd) : Out := if stB pl 480 = false then none else some (finP p t, 512, lg, ov, ws)

set_option maxRecDepth 100000 in
set_option maxHeartbeats 4000000 in
theorem end_any {t : Api.Term} {u : Value} (h : St w base rb lo hi rc a D p N ws) (hap : Apart w base (a.l ++ D2)) (hD : ∀ F ∈ D, F ∈ D2) (ht : IsTerm D2 [i64 t.kind, i64 t.a.kind, str t.a.s, i64 t.a.n, u, i64 t.n] t)
    (hF : stB rc.place 480 = true → p.funcs ≠ [] ∧ (p.funcs.getLast?.getD funcZ).blocks ≠ []) :
    Calls Tryz.prog 134 #[ptr rb, .agg #[i64 t.kind, i64 t.a.kind, str t.a.s, i64 t.a.n, u, i64 t.n]] w (Meth base rb lo hi N rc.first w (endD p rc.place rc.long rc.over t ws)) := by
  obtain ⟨tk, ⟨ak, as_, an⟩, td, tn⟩ := t
  simp only at ht ⊢
  obtain ⟨uA, un, uc, rfl⟩ : ∃ A n c, u = .slice A n c := by
    obtain ⟨u', e, hu⟩ := ht
    have e2 : u' = u := by simpa using e.symm
    rw [← e2]
    exact node_form hu fun F hF => hap.1 F (List.mem_append_right _ hF)
  obtain ⟨bx, hbx⟩ : ∃ bx : Obj, bx = .cells #[i64 tk, i64 ak, str as_, i64 an, .slice uA un uc, i64 tn] 45 := ⟨_, rfl⟩
  have hO1 : OwnR (w.alloc bx) rb rc := alloc_own h.own bx
  have hB : Own (w.alloc bx) w.heap.size 45 [i64 tk, i64 ak, str as_, i64 an, .slice uA un uc, i64 tn] := by rw [hbx]; exact Own.made w 45 [i64 tk, i64 ak, str as_, i64 an, .slice uA un uc, i64 tn]
  by_cases hs : stB rc.place 480 = true
  · obtain ⟨hne, hnb⟩ := hF hs
    have Q0 := Lib.hid (stands_yes hO1 hs)
    have HSB := Lib.hid hs
    obtain ⟨m, g, cap, hlen, hav, hgb, hgl, hm, fR, fV, fB, hz, hqf⟩ := func_path h hne
    obtain ⟨m2, g2, cap2, hlen2, hav2, hgb2, hgl2, hm2, fH, fK, hz2, c2, hqb, hc2⟩ := block_path h hne hnb
    have f4 := h.cells.2.2.2.2.1
    rw [hav] at f4
    rw [hav2] at fB
    have QB := Lib.hid fun w' (hw : SameH (w.alloc bx) w') => lastBlock_any (rb := rb) (hw.cell (al_cell f4)) hm (hw.cell (al_cell fB)) hm2
    have HH := Lib.hid h
    have HG2 := Lib.hid hgl2
    have hrb : g2 ≠ rb := by have := h.mid; omega
    have HRB := Lib.hid hrb
    have hbn : a.B.n = m2 + 1 := by rw [hqf.2.2.2.2.2.1, hlen2]
    obtain ⟨c2', e1, _, _, e4⟩ := hqb
    have e1' : c2 = c2' := by simpa using e1
    subst e1'
    obtain ⟨u0, e5, _⟩ := e4
    rw [e5] at hc2
    have HD0 := Lib.hid (al_cell (x := bx) (hc2 0 _ rfl))
    have HD1 := Lib.hid (al_cell (x := bx) (hc2 1 _ rfl))
    have HD2 := Lib.hid (al_cell (x := bx) (hc2 2 _ rfl))
    have HD3 := Lib.hid (al_cell (x := bx) (hc2 3 _ rfl))
    have HD4 := Lib.hid (al_cell (x := bx) (hc2 4 _ rfl))
    have HD5 := Lib.hid (al_cell (x := bx) (hc2 5 _ rfl))
    have hzb : ∀ j, (w.alloc bx).frozen? ⟨g2, j, none⟩ = false := fun j => (World.frozen?_of_block (a := ⟨g2, j, none⟩) (heap_alloc_old w bx hgl2)).trans (hz2 j)
    have HZ := Lib.hid hzb
    have HB := Lib.hid hB
    have HO1 := Lib.hid hO1
    have Hap := Lib.hid hap
    have HD := Lib.hid hD
    have HT := Lib.hid ht
    have HAV := Lib.hid hav2
    have HBN := Lib.hid hbn
    have HL2 := Lib.hid hlen2
    have HNE := Lib.hid hne
    have HNB := Lib.hid hnb
    have HGB := Lib.hid hgb2
    obtain ⟨b0, b1, b2, b3, b4, b5⟩ := own6 hB
    rw [hbx] at b0 b1 b2 b3 b4 b5
    clear h hs hF hne hnb hlen hav hgb hgl hm fR fV fB hz hqf hlen2 hav2 hgb2 hgl2 hm2 fH fK hz2 e1 e5 hc2 hzb hB hO1 hrb f4 hap hD ht hbn
    subst hbx
    go_enter Tryz.func134, Tryz.ntmps134
    go_wp2_with (go_at_call 43; (with_reducible refine (Q0.out).mono ?_); rintro e w5 ⟨rfl, rfl⟩)
    go_region_law (go_simp; go_at_call 129; (with_reducible refine (QB.out _ (SameH.refl _).drew).mono ?_); rintro e w1 ⟨rfl, hs⟩; have HSA := Lib.hid (((SameH.refl _).drew).trans hs); clear hs; have d0 := HSA.out.cell HD0.out; have d1 := HSA.out.cell HD1.out; have d2 := HSA.out.cell HD2.out; have d3 := HSA.out.cell HD3.out; have d4 := HSA.out.cell HD4.out; have d5 := HSA.out.cell HD5.out; have k0 := HSA.out.cell b0; have k1 := HSA.out.cell b1; have k2 := HSA.out.cell b2; have k3 := HSA.out.cell b3; have k4 := HSA.out.cell b4; have k5 := HSA.out.cell b5; have z0 := HSA.out.thaw (HZ.out (m2 * 9 + 3)); have z1 := HSA.out.thaw (HZ.out (m2 * 9 + 3 + 1)); have z2 := HSA.out.thaw (HZ.out (m2 * 9 + 3 + 2)); have z3 := HSA.out.thaw (HZ.out (m2 * 9 + 3 + 3)); have z4 := HSA.out.thaw (HZ.out (m2 * 9 + 3 + 4)); have z5 := HSA.out.thaw (HZ.out (m2 * 9 + 3 + 5)); have hlt : g2 < w1.heap.size := World.block_lt_of_cell? w1 _ d0; simp only [Nat.add_zero] at d0)
    all_goals
      have ho := HSA.out.own HO1.out
      obtain ⟨f5, y5, l5⟩ := own_at5 ho
      have n1 : ¬ g2 = rb := HRB.out
      have n2 : ¬ rb = g2 := fun e => HRB.out e.symm
      have HO2 := Lib.hid ho
      clear ho
      go_wp2
      go_end0
      have hO3 : OwnR ((((((w1.setCell ⟨g2, m2 * 9 + 3, none⟩ (i64 tk)).setCell ⟨g2, m2 * 9 + 3 + 1, none⟩ (i64 ak)).setCell ⟨g2, m2 * 9 + 3 + 2, none⟩ (str as_)).setCell ⟨g2, m2 * 9 + 3 + 3, none⟩ (i64 an)).setCell ⟨g2, m2 * 9 + 3 + 4, none⟩ (.slice uA un uc)).setCell ⟨g2, m2 * 9 + 3 + 5, none⟩ (i64 tn)) rb rc := own_set (own_set (own_set (own_set (own_set (own_set HO2.out n1 _) n1 _) n1 _) n1 _) n1 _) n1 _
      have hk : ∀ k, base ≤ k → k < w.heap.size → w1.heap[k]? = w.heap[k]? := fun k _ hlt => by rw [HSA.out.1]; exact heap_alloc_old w _ hlt
      have hB1 := Build.ends (t := ⟨tk, ⟨ak, as_, an⟩, td, tn⟩) (u := .slice uA un uc) (g0 := g2) (cap := cap2) (HH.out.bld.same hk) HNE.out HNB.out (ap_same Hap.out hk) HD.out (by rw [HAV.out, HBN.out]) HT.out (q := m2 * 9) (by rw [HL2.out, Nat.add_sub_cancel])
      have b1 : Beside base rb w w1 := (Beside.grow (Beside.refl base rb w) (World.grownBy_alloc w _ none) HH.out.high (by simp)).grow (HSA.out.grown none) HH.out.high (by simp)
      have b2 := ((((((b1.set (p := ⟨g2, m2 * 9 + 3, none⟩) (.inl HGB.out) (i64 tk)).set (p := ⟨g2, m2 * 9 + 3 + 1, none⟩) (.inl HGB.out) (i64 ak)).set (p := ⟨g2, m2 * 9 + 3 + 2, none⟩) (.inl HGB.out) (str as_)).set (p := ⟨g2, m2 * 9 + 3 + 3, none⟩) (.inl HGB.out) (i64 an)).set (p := ⟨g2, m2 * 9 + 3 + 4, none⟩) (.inl HGB.out) (.slice uA un uc)).set (p := ⟨g2, m2 * 9 + 3 + 5, none⟩) (.inl HGB.out) (i64 tn)).set (p := ⟨rb, 5, none⟩) (.inr rfl) (i64 512)
      exact Meth.ok (p2 := finP p ⟨tk, ⟨ak, as_, an⟩, td, tn⟩) b2 (by unfold endD; rw [if_neg (by rw [HSB.out]; simp)]) (HH.out.finish b2 (rcf := { rc with place := 512 }) (hO3.store 5 _) (rb_set hB1 HH.out.mid 5 _) HH.out.ssa HH.out.c HH.out.g HH.out.e HH.out.u rfl) rfl rfl rfl rfl
  · have hs : stB rc.place 480 = false := by simpa using hs
    have e : endD p rc.place rc.long rc.over ⟨tk, ⟨ak, as_, an⟩, td, tn⟩ ws = none := by unfold endD; rw [if_pos hs]
    rw [e]
    have Q := Lib.hid (stands_no hO1 hs)
    have HB := Lib.hid (Beside.grow (Beside.refl base rb w) (World.grownBy_alloc w bx none) h.high (by simp))
    clear h hs e hO1 hB hF hap hD ht
    subst hbx
    go_enter Tryz.func134, Tryz.ntmps134
    go_wp2_with (go_at_call 43; (with_reducible refine (Q.out).mono ?_); rintro e w1 ⟨rfl, rfl⟩)
    exact ⟨rfl, HB.out, rfl⟩

theorem St.alloc (h : St w base rb lo hi rc a D p N ws) (o : Obj) : St (w.alloc o) base rb lo hi rc a D p N ws :=
  h.keep (alloc_own h.own o) (World.grownBy_alloc w o _) rfl rfl rfl rfl rfl rfl
theorem add_row {F : Rec} (h : Build w base a D p N) (hw : ∀ k, base ≤ k → k < w.heap.size → w'.heap[k]? = w.heap[k]?) (hF : F.on w' base) (hk : ∀ k, F.v.ownBlock = some k → w.heap.size ≤ k) : Apart w' base (a.l ++ (F :: D)) :=
  (h.same hw).own hF fun x hx => by
    cases hv : F.v.ownBlock with
    | none => exact .inl rfl
    | some k =>
      right
      intro e
      have h1 := hk k hv
      have h2 := ((h.ap.1 x hx).lt e.symm).2
      omega
theorem Meth.from {first : Value} {out : Out} {e : Ending} (hB : Beside base rb w w1) (h : Meth base rb lo hi N first w1 out e w') : Meth base rb lo hi N first w out e w' := ⟨hB.trans h.1, h.2⟩
theorem meth_ends {first : Value} {out : Out} {e : Ending} (h : Meth base rb lo hi N first w out e w') : e = .panicked (chain 3) ∨ e = .returned (.tuple #[]) := by
  obtain ⟨_, h⟩ := h
  cases out with
  | none => exact .inl h
  | some y => exact .inr h.1
theorem Meth.more {M : Nat} {first : Value} {out : Out} {e : Ending} (h : Meth base rb lo hi N first w out e w') (hM : N ≤ M) : Meth base rb lo hi M first w out e w' := by
  refine ⟨h.1, ?_⟩
  have h2 := h.2
  cases out with
  | none => exact h2
  | some y => obtain ⟨e, rc, a, D, hS, r⟩ := h2; exact ⟨e, rc, a, D, hS.more M hM, r⟩
abbrev FitB (p : Prog) (pl : Int) : Prop := stB pl 480 = true → p.funcs ≠ [] ∧ (p.funcs.getLast?.getD funcZ).blocks ≠ []

def jumpD (p : Prog) (pl lg : Int) (ov : Bool) (ws : List Wd) : Out := match takeName ws with | none => none | some (x, l) => endD p pl lg ov ⟨1, argZ, [x], 0⟩ l
def retD (p : Prog) (pl lg : Int) (ov : Bool) (ws : List Wd) : Out := match takeArg ws with | none => none | some (x, l) => endD p pl lg ov ⟨3, x, [], 0⟩ l
def trapD (p : Prog) (pl lg : Int) (ov : Bool) (ws : List Wd) : Out := match takeNum ws with | none => none | some (n, l) => endD p pl lg ov ⟨4, argZ, [], n⟩ l
def branchD (p : Prog) (pl lg : Int) (ov : Bool) (ws : List Wd) : Out := match takeArg ws with
  | none => none
  | some (x, l) => match takeName l with
    | none => none
    | some (y, l) => match takeName l with
      | none => none
      | some (z, l) => endD p pl lg ov ⟨2, x, [y, z], 0⟩ l
theorem jumpD_none {pl lg : Int} {ov : Bool} (h : takeName ws = none) : jumpD p pl lg ov ws = none := by unfold jumpD; rw [h]
theorem retD_none {pl lg : Int} {ov : Bool} (h : takeArg ws = none) : retD p pl lg ov ws = none := by unfold retD; rw [h]
theorem trapD_none {pl lg : Int} {ov : Bool} (h : takeNum ws = none) : trapD p pl lg ov ws = none := by unfold trapD; rw [h]
theorem branchD_none {pl lg : Int} {ov : Bool} (h : takeArg ws = none) : branchD p pl lg ov ws = none := by unfold branchD; rw [h]
theorem nil_term (k : Int) (x : Arg) (n : Int) : IsTerm D [i64 k, i64 x.kind, str x.s, i64 x.n, .slice none 0 0, i64 n] ⟨k, x, [], n⟩ := ⟨_, rfl, .inl ⟨rfl, rfl⟩⟩

set_option maxHeartbeats 2000000 in
theorem ret_any (h : St w base rb lo hi rc a D p N ws) (hF : FitB p rc.place) :
    Calls Tryz.prog 87 #[ptr rb] w (Meth base rb lo hi N rc.first w (retD p rc.place rc.long rc.over ws)) := by
  have Q := Lib.hid (argument_take h.own h.wds h.low)
  have HH := Lib.hid h
  have HF := Lib.hid hF
  clear h hF
  go_enter Tryz.func87, Tryz.ntmps87
  go_wp2_with (first
    | (go_at_call 135; (with_reducible refine (Q.out).mono ?_); intro e w1 hT; rcases take_cases hT with ⟨hn, rfl, hg⟩ | ⟨⟨ak, as_, an⟩, l, v1, hn, rfl, ho, hw, hg⟩; exact ⟨rfl, st_bad HH hg (retD_none hn)⟩; have hS := HH.out.took ho hw hg; have q := end_any (t := ⟨3, ⟨ak, as_, an⟩, [], 0⟩) (u := .slice none 0 0) hS hS.bld.ap (fun _ h => h) (nil_term 3 ⟨ak, as_, an⟩ 0) HF.out; simp only at q; have QE := Lib.hid q; have HN := Lib.hid hn; have HB := Lib.hid (Beside.of_grown hg HH.out.high); clear q hS hT hn ho hw hg)
    | (go_at_call 134; (with_reducible refine (QE.out).mono ?_); intro e w2 hM; have HM : Hid (Meth base rb lo hi N rc.first w (retD p rc.place rc.long rc.over ws) e w2) := Lib.hid (by unfold retD; rw [HN.out]; exact hM.from HB.out); rcases meth_ends hM with rfl | rfl; exact ⟨rfl, HM.out⟩; clear hM))
  go_end0
  exact HM.out
set_option maxHeartbeats 2000000 in
theorem trap_any (h : St w base rb lo hi rc a D p N ws) (hF : FitB p rc.place) :
    Calls Tryz.prog 88 #[ptr rb] w (Meth base rb lo hi N rc.first w (trapD p rc.place rc.long rc.over ws)) := by
  have Q := Lib.hid (number_take h.own h.wds h.low)
  have HH := Lib.hid h
  have HF := Lib.hid hF
  clear h hF
  go_enter Tryz.func88, Tryz.ntmps88
  go_wp2_with (first
    | (go_at_call 136; (with_reducible refine (Q.out).mono ?_); intro e w1 hT; rcases take_cases hT with ⟨hn, rfl, hg⟩ | ⟨n, l, v1, hn, rfl, ho, hw, hg⟩; exact ⟨rfl, st_bad HH hg (trapD_none hn)⟩; have hS := HH.out.took ho hw hg; have q := end_any (t := ⟨4, argZ, [], n⟩) (u := .slice none 0 0) hS hS.bld.ap (fun _ h => h) (nil_term 4 argZ n) HF.out; simp only [argZ] at q; have QE := Lib.hid q; have HN := Lib.hid hn; have HB := Lib.hid (Beside.of_grown hg HH.out.high); clear q hS hT hn ho hw hg)
    | (go_at_call 134; (with_reducible refine (QE.out).mono ?_); intro e w2 hM; have HM : Hid (Meth base rb lo hi N rc.first w (trapD p rc.place rc.long rc.over ws) e w2) := Lib.hid (by unfold trapD; rw [HN.out]; exact hM.from HB.out); rcases meth_ends hM with rfl | rfl; exact ⟨rfl, HM.out⟩; clear hM))
  go_end0
  exact HM.out
theorem flat_one {α β : Type} (f : α → β) (xs : List α) : xs.flatMap (fun x => [f x]) = xs.map f := by
  induction xs with
  | nil => rfl
  | cons a l ih => rw [List.flatMap_cons, ih]; rfl
/-- a row of texts just laid, among D. -/
theorem texts_row (h : Build w base a D p N) (hb : base ≤ w.heap.size) (xs : List Wd) (hx : xs.length ≤ 1000) : Apart (w.alloc (.cells (xs.map str).toArray 9)) base (a.l ++ ((⟨9, 1, .slice (some ⟨w.heap.size, 0, none⟩) xs.length xs.length, xs.length, xs.map str⟩ : Rec) :: D)) ∧
    ∀ k x n, IsTerm ((⟨9, 1, .slice (some ⟨w.heap.size, 0, none⟩) xs.length xs.length, xs.length, xs.map str⟩ : Rec) :: D) [i64 k, i64 x.kind, str x.s, i64 x.n, .slice (some ⟨w.heap.size, 0, none⟩) xs.length xs.length, i64 n] ⟨k, x, xs, n⟩ := by
  have hF : Rec.on (w.alloc (.cells (xs.map str).toArray 9)) base ⟨9, 1, .slice (some ⟨w.heap.size, 0, none⟩) xs.length xs.length, xs.length, xs.map str⟩ := by
    have ho : Own (w.alloc (.cells (xs.map str).toArray 9)) w.heap.size 9 (xs.map str) := Own.made w 9 (xs.map str)
    exact ho.row hb (Nat.le_refl _) (by unfold maxLen; omega) (by simp) (by rw [List.take_of_length_le (by simp)])
  refine ⟨add_row h (fun k _ hk => heap_alloc_old w _ hk) hF (fun k hk => by simp [Value.ownBlock] at hk; omega), fun k x n => ⟨_, rfl, .inr ⟨_, List.mem_cons_self, rfl, rfl, rfl, rfl, by show xs.length ≤ _; omega, ?_⟩⟩⟩
  have := Cells.flat (size := 1) (f := fun x : Wd => [str x]) (fun _ => rfl) xs
  rw [flat_one] at this
  exact this
set_option maxHeartbeats 2000000 in
theorem jump_any (h : St w base rb lo hi rc a D p N ws) (hF : FitB p rc.place) :
    Calls Tryz.prog 85 #[ptr rb] w (Meth base rb lo hi N rc.first w (jumpD p rc.place rc.long rc.over ws)) := by
  have Q := Lib.hid (name_take h.own h.wds h.low)
  have HH := Lib.hid h
  have HF := Lib.hid hF
  clear h hF
  go_enter Tryz.func85, Tryz.ntmps85
  go_wp2_with (first
    | (go_at_call 122; (with_reducible refine (Q.out).mono ?_); intro e w1 hT; rcases take_cases hT with ⟨hn, rfl, hg⟩ | ⟨x, l, v1, hn, rfl, ho, hw, hg⟩; exact ⟨rfl, st_bad HH hg (jumpD_none hn)⟩; have hS := HH.out.took ho hw hg; obtain ⟨hap, hit⟩ := texts_row hS.bld hS.high [x] (by simp); have q := end_any (t := ⟨1, argZ, [x], 0⟩) (u := .slice (some ⟨w1.heap.size, 0, none⟩) 1 1) (hS.alloc (.cells #[str x] 9)) hap (fun _ h => List.mem_cons_of_mem _ h) (hit 1 argZ 0) HF.out; simp only [argZ] at q; have QE := Lib.hid q; have HN := Lib.hid hn; have HB := Lib.hid ((Beside.of_grown hg HH.out.high).grow (World.grownBy_alloc w1 (.cells #[str x] 9) none) HH.out.high (by simp)); clear q hS hT hn ho hw hg hap hit)
    | (go_at_call 134; (with_reducible refine (QE.out).mono ?_); intro e w2 hM; have HM : Hid (Meth base rb lo hi N rc.first w (jumpD p rc.place rc.long rc.over ws) e w2) := Lib.hid (by unfold jumpD; rw [HN.out]; exact hM.from HB.out); rcases meth_ends hM with rfl | rfl; exact ⟨rfl, HM.out⟩; clear hM))
  go_end0
  exact HM.out

theorem branchD_2 {pl lg : Int} {ov : Bool} {x : Arg} (h : takeArg ws = some (x, l)) (h2 : takeName l = none) : branchD p pl lg ov ws = none := by unfold branchD; rw [h]; simp only; rw [h2]
theorem branchD_3 {pl lg : Int} {ov : Bool} {x : Arg} {y : Wd} {l2 : List Wd} (h : takeArg ws = some (x, l)) (h2 : takeName l = some (y, l2)) (h3 : takeName l2 = none) : branchD p pl lg ov ws = none := by unfold branchD; rw [h]; simp only; rw [h2]; simp only; rw [h3]
theorem branchD_4 {pl lg : Int} {ov : Bool} {x : Arg} {y z : Wd} {l2 l3 : List Wd} (h : takeArg ws = some (x, l)) (h2 : takeName l = some (y, l2)) (h3 : takeName l2 = some (z, l3)) : branchD p pl lg ov ws = endD p pl lg ov ⟨2, x, [y, z], 0⟩ l3 := by unfold branchD; rw [h]; simp only; rw [h2]; simp only; rw [h3]
abbrev oA (ak an : Int) (as_ : Wd) : Obj := .cells #[i64 ak, str as_, i64 an] 42
set_option maxHeartbeats 2000000 in
theorem branch_any (h : St w base rb lo hi rc a D p N ws) (hF : FitB p rc.place) :
    Calls Tryz.prog 86 #[ptr rb] w (Meth base rb lo hi N rc.first w (branchD p rc.place rc.long rc.over ws)) := by
  have Q := Lib.hid (argument_take h.own h.wds h.low)
  have HH := Lib.hid h
  have HF := Lib.hid hF
  clear h hF
  go_enter Tryz.func86, Tryz.ntmps86
  go_wp2_with (go_at_call 135; (with_reducible refine (Q.out).mono ?_); intro e w1 hT; rcases take_cases hT with ⟨hn, rfl, hg⟩ | ⟨⟨ak, as_, an⟩, l1, v1, hn, rfl, ho, hw, hg⟩; exact ⟨rfl, st_bad HH hg (branchD_none hn)⟩; have hS := (HH.out.took ho hw hg).alloc (oA ak an as_); have HS1 := Lib.hid hS; have Q2 := Lib.hid (name_take hS.own hS.wds hS.low); have HN1 := Lib.hid hn; have HB1 := Lib.hid ((Beside.of_grown hg HH.out.high).grow (World.grownBy_alloc w1 (oA ak an as_) none) HH.out.high (by simp)); have HA := Lib.hid (Own.made w1 42 [i64 ak, str as_, i64 an]); have HGB := Lib.hid (Nat.le_trans HH.out.high hg.size); have HMD := Lib.hid HH.out.mid; clear hS hT hn ho hw hg)
  refine (Q2.out).mono ?_; intro e w2 hT; rcases take_cases hT with ⟨hn, rfl, hg⟩ | ⟨y, l2, v2, hn, rfl, ho, hw, hg⟩
  · exact ⟨rfl, (st_bad HS1 hg (branchD_2 HN1.out hn)).from HB1.out⟩
  have hS := HS1.out.took ho hw hg; have HS2 := Lib.hid hS; have Q3 := Lib.hid (name_take hS.own hS.wds hS.low); have HN2 := Lib.hid hn; have HB2 := Lib.hid (HB1.out.trans (Beside.of_grown hg HS1.out.high))
  have HA2 : Hid (Own w2 w1.heap.size 42 [i64 ak, str as_, i64 an]) := Lib.hid ((hg.block w1.heap.size (by simp) (by intro e; injection e with e; have := HGB.out; have := HMD.out; omega)).trans HA.out)
  clear hS hT hn ho hw hg
  go_wp2_with fail
  refine (Q3.out).mono ?_; intro e w3 hT; rcases take_cases hT with ⟨hn, rfl, hg⟩ | ⟨z, l3, v3, hn, rfl, ho, hw, hg⟩
  · exact ⟨rfl, (st_bad HS2 hg (branchD_3 HN1.out HN2.out hn)).from HB2.out⟩
  have hS := HS2.out.took ho hw hg
  have HA3 : Hid (Own w3 w1.heap.size 42 [i64 ak, str as_, i64 an]) := Lib.hid ((hg.block w1.heap.size HA2.out.lt (by intro e; injection e with e; have := HGB.out; have := HMD.out; omega)).trans HA2.out)
  obtain ⟨⟨c0, c1, c2⟩, _, _⟩ := own3 HA3.out
  obtain ⟨hap, hit⟩ := texts_row hS.bld hS.high [y, z] (by simp)
  have q := end_any (t := ⟨2, ⟨ak, as_, an⟩, [y, z], 0⟩) (u := .slice (some ⟨w3.heap.size, 0, none⟩) 2 2) (hS.alloc (.cells #[str y, str z] 9)) hap (fun _ h => List.mem_cons_of_mem _ h) (hit 2 ⟨ak, as_, an⟩ 0) HF.out
  simp only at q
  have QE := Lib.hid q
  have HN3 := Lib.hid hn
  have HB3 := Lib.hid ((HB2.out.trans (Beside.of_grown hg HS2.out.high)).grow (World.grownBy_alloc w3 (.cells #[str y, str z] 9) none) HH.out.high (by simp))
  clear q hS hT hn ho hw hg hap hit
  go_wp2_with fail
  refine (QE.out).mono ?_; intro e w4 hM
  have HM : Hid (Meth base rb lo hi N rc.first w (branchD p rc.place rc.long rc.over ws) e w4) := Lib.hid (by rw [branchD_4 HN1.out HN2.out HN3.out]; exact hM.from HB3.out)
  rcases meth_ends hM with rfl | rfl
  · exact ⟨rfl, HM.out⟩
  clear hM
  go_wp2_with fail
  go_end0
  exact HM.out
end Go.Proofs.YtkmndgjabkjafaaGreatDoor.Rd5
