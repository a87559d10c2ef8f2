/-
  Package syntax: lines that grow a row of the last class, or of the last function: field, param, variable, block.
-/
import Derived.Test.YtkmndgjabkjafaaGreatDoorHeads
import Derived.Test.YtkmndgjabkjafaaGreatDoorRdrT
namespace Go.Proofs.YtkmndgjabkjafaaGreatDoor.Rd5
open Go.RowKit Api Hold Mem Syn WordM Tree

variable {w w' w1 w2 : World} {lo hi rb base N : Nat} {rc : RC} {v : Value} {l ws : List Wd} {row : Option Nat} {a : Tree.Act} {D : List Rec} {p : Prog}
theorem blk_info : (Tryz.prog.info? 47).map (fun i => (i.zero, i.size, i.bytes)) = some (some (.agg #[.string ⟨#[]⟩, .slice none 0 0, .slice none 0 0, .int .i64 0, .int .i64 0, .string ⟨#[]⟩, .int .i64 0, .slice none 0 0, .int .i64 0]), 9, 136) := by kernel_rfl
theorem ones_blk (x : Wd) : ∀ u ∈ (str x :: .slice none 0 0 :: .slice none 0 0 :: nilTerm), u.oneCell' = true := by
  intro u hu
  simp only [nilTerm, List.mem_cons, List.not_mem_nil, or_false] at hu
  rcases hu with rfl | rfl | rfl | rfl | rfl | rfl | rfl | rfl | rfl <;> rfl
theorem last_field (h : St w base rb lo hi rc a D p N ws) (hne : p.classes ≠ []) : RowIs 93 2 (fun c x => c = varC x) a.F (p.classes.getLast?.getD ⟨[], []⟩).fields := by
  obtain ⟨init, x, c, e, _, hq, _⟩ := h.bld.sh.c.at hne
  rw [last_of e]
  exact hq.2

/-- field. -/
def fieldD (p : Prog) (pl lg : Int) (ws : List Wd) : Out :=
  if stB pl 4 = false then none else match takeVar ws with
  | none => none
  | some (y, l) => some ({ p with classes := Syn.last (fun c => { c with fields := c.fields ++ [y] }) p.classes }, pl, lg, decide ((8 : Int) < (((p.classes.getLast?.getD ⟨[], []⟩).fields.length + 1 : Nat) : Int)), l)
theorem fieldD_none {pl lg : Int} (h : takeVar ws = none) : fieldD p pl lg ws = none := by
  unfold fieldD
  rw [h]
  split <;> rfl
theorem fieldD_no {pl lg : Int} (h : stB pl 4 = false) : fieldD p pl lg ws = none := by unfold fieldD; rw [if_pos h]
set_option maxRecDepth 100000 in
set_option maxHeartbeats 4000000 in
theorem field_any (h : St w base rb lo hi rc a D p N ws) (hov : rc.over = false) (hN : N < 1073741824) (hF : stB rc.place 4 = true → p.classes ≠ []) :
    Calls Tryz.prog 74 #[ptr rb] w (Meth base rb lo hi (N + 1) rc.first w (fieldD p rc.place rc.long ws)) := by
  by_cases hs : stB rc.place 4 = true
  · have hne := hF hs
    have HSB := Lib.hid hs
    have HS := Lib.hid fun w (hO : OwnR w rb rc) => stands_yes hO hs
    have Q := Lib.hid fun w' (hw : SameH w w') => declared_take (hw.st h).own (hw.st h).wds (hw.st h).low
    obtain ⟨m, g0, cap0, hlen, hav, hgb, hgl, hm, fc, hz⟩ := class_path h hne
    have hqf := last_field h hne
    have HH := Lib.hid h
    have HV := Lib.hid hov
    obtain ⟨i0, hi, hz0, hz1, hz2⟩ := info_parts var_info
    have Hi := Lib.hid hi
    have Hz0 := Lib.hid hz0
    have Hz1 := Lib.hid hz1
    have Hz2 := Lib.hid hz2
    have hcn : a.F.n ≤ N := h.bld.few _ (by simp [Act.l])
    have HGB := Lib.hid hgb
    have hgr : g0 ≠ rb := by have := h.mid; omega
    have HGN := Lib.hid hgr
    have HZ := Lib.hid hz
    have HC := Lib.hid fc
    have HL := Lib.hid hlen
    have HNE := Lib.hid hne
    have HAV := Lib.hid hav
    have f0 := h.cells.2.1
    rw [hav] at f0
    have HQF := Lib.hid hqf
    clear hqf
    clear hs h hov hi hz0 hz1 hz2 hgb hgr hz hlen hne hav hF
    go_enter Tryz.func74, Tryz.ntmps74
    go_wp2_with (go_at_call 43; (with_reducible refine (HS.out _ HH.out.own).mono ?_); rintro e w0 ⟨rfl, rfl⟩)
    go_quiet (fail)
    go_wp2
    go_region_law (first
      | (go_simp; go_at_call 124; (with_reducible refine (Q.out _ (SameH.drewN w (nq + 1))).mono ?_); intro e w1 hT; rcases take_cases hT with ⟨hn, rfl, hg⟩ | ⟨y, l, v1, hn, rfl, ho, hw, hg⟩; exact ⟨rfl, st_bad HH ((SameH.grown (SameH.drewN w (nq + 1)) _).trans hg) (fieldD_none hn)⟩; have HSA : Hid (SameH w _) := (SameH.drewN w (nq + 1)); have HT := Lib.hid ((HSA.out.st HH.out).took ho hw hg); have HN := Lib.hid hn; have HG := Lib.hid ((HSA.out.grown _).trans hg); obtain ⟨f1b, z1b, l1b⟩ := grown_cell hg HGN.out (HSA.out.cell HC.out) (HSA.out.thaw (HZ.out (m * 2 + 1))); have f1d := al_cell (x := .cells #[str y.name, str y.type] 93) f1b; clear hT hn ho hw hg)
      | (refine step_grow (w0 := w1) rfl _ _ 23 (by rfl) base 93 i0 (.agg #[.string ⟨#[]⟩, .string ⟨#[]⟩]) 2 32 Tryz.underlying23 Hi.out Hz0.out Hz1.out Hz2.out rfl (by decide) (by decide) a.F (HQF.out).1 (HQF.out).2.1 (by rfl) (HT.out.on (by simp [Act.l])) [str y.name, str y.type] _ rfl (by rfl) rfl (ones_var _ _) (by omega) HT.out.high ?_; intro g cap w2 hG; have HGR := Lib.hid hG; have ho2 := own_grown HT.out hG (by simp [Act.l]); obtain ⟨f1c, z1c, l1c⟩ := grew_cell hG l1b (ap_ne (A := [a.C]) (B := [a.G, a.E, a.U, a.R, a.V, a.B, a.H, a.K, a.M, a.O] ++ D) (x := a.C) HT.out.bld.ap (by simp) (by rw [HAV.out]; rfl)) f1b z1b; have HO2 : Hid (OwnR (w2.setCell ⟨g0, (m * 2 + 1), none⟩ (.slice (some ⟨g, 0, none⟩) (a.F.n + 1) cap)) rb { rc with rest := v1 }) := Lib.hid (own_set ho2 HGN.out _); clear hG ho2))
    all_goals
      go_wp2_with (go_at_call 123; (with_reducible refine (limit_any _ _ HO2.out).mono ?_); rintro e w3 ⟨rfl, ho3, hg3, _⟩; have HO3 := Lib.hid ho3; have HG3 := Lib.hid hg3; obtain ⟨f5, z5, l5⟩ := own_at5 ho3; clear ho3 hg3)
      go_end0
      have hB := Build.field (g0 := g0) (cap := cap0) (al_build HT.out.bld (.cells #[str y.name, str y.type] 93)) y HNE.out HGR.out (by rw [HAV.out, HH.out.bld.sh.c.2.2.1, HL.out]) hN
      rw [HL.out, Nat.add_sub_cancel] at hB
      obtain ⟨b1, b2, b3⟩ := inner_end HT.out HG.out HH.out.high (by simp [Act.l]) HGR.out hB HGB.out HG3.out
      exact Meth.ok (p2 := { p with classes := Syn.last (fun c => { c with fields := c.fields ++ [y] }) p.classes }) b1 (by unfold fieldD; rw [if_neg (by rw [HSB.out]; simp), HN.out]) (HT.out.finish b2 (rcf := { rc with rest := v1, over := rc.over || decide ((8 : Int) < ((a.F.n + 1 : Nat) : Int)) }) HO3.out b3 HT.out.ssa HT.out.c HT.out.g HT.out.e HT.out.u rfl) rfl rfl (by rw [HV.out, Bool.false_or, (HQF.out).2.2.1]) rfl
  · have hs : stB rc.place 4 = false := by simpa using hs
    rw [fieldD_no hs]
    have Q := Lib.hid (stands_no h.own hs)
    clear h hs
    go_enter Tryz.func74, Tryz.ntmps74
    go_wp2_with (go_at_call 43; (with_reducible refine (Q.out).mono ?_); rintro e w1 ⟨rfl, rfl⟩)
    exact ⟨rfl, Beside.refl _ _ _, rfl⟩

/-- param. -/
def paramD (p : Prog) (pl lg : Int) (ws : List Wd) : Out :=
  if stB pl 8 = false then none else match takeVar ws with
  | none => none
  | some (y, l) => some ({ p with funcs := Syn.last (fun f => { f with params := f.params ++ [y] }) p.funcs }, pl, lg, decide ((6 : Int) < (((p.funcs.getLast?.getD funcZ).params.length + 1 : Nat) : Int)), l)
theorem paramD_none {pl lg : Int} (h : takeVar ws = none) : paramD p pl lg ws = none := by
  unfold paramD
  rw [h]
  split <;> rfl
theorem paramD_no {pl lg : Int} (h : stB pl 8 = false) : paramD p pl lg ws = none := by unfold paramD; rw [if_pos h]
set_option maxRecDepth 100000 in
set_option maxHeartbeats 4000000 in
theorem param_any (h : St w base rb lo hi rc a D p N ws) (hov : rc.over = false) (hN : N < 1073741824) (hF : stB rc.place 8 = true → p.funcs ≠ []) :
    Calls Tryz.prog 78 #[ptr rb] w (Meth base rb lo hi (N + 1) rc.first w (paramD p rc.place rc.long ws)) := by
  by_cases hs : stB rc.place 8 = true
  · have hne := hF hs
    have HSB := Lib.hid hs
    have HS := Lib.hid fun w (hO : OwnR w rb rc) => stands_yes hO hs
    have Q := Lib.hid fun w' (hw : SameH w w') => declared_take (hw.st h).own (hw.st h).wds (hw.st h).low
    obtain ⟨m, g0, cap0, hlen, hav, hgb, hgl, hm, fR, fV, fB, hz, hqf⟩ := func_path h hne
    have fc := fR
    clear fR fV fB
    have HH := Lib.hid h
    have HV := Lib.hid hov
    obtain ⟨i0, hi, hz0, hz1, hz2⟩ := info_parts var_info
    have Hi := Lib.hid hi
    have Hz0 := Lib.hid hz0
    have Hz1 := Lib.hid hz1
    have Hz2 := Lib.hid hz2
    have hcn : a.R.n ≤ N := h.bld.few _ (by simp [Act.l])
    have HGB := Lib.hid hgb
    have hgr : g0 ≠ rb := by have := h.mid; omega
    have HGN := Lib.hid hgr
    have HZ := Lib.hid hz
    have HC := Lib.hid fc
    have HL := Lib.hid hlen
    have HNE := Lib.hid hne
    have HAV := Lib.hid hav
    have f0 := h.cells.2.2.2.2.1
    rw [hav] at f0
    have QL := Lib.hid fun w' (hw : SameH w w') => lastFunc_any (hw.cell f0) hm
    have HQF := Lib.hid hqf
    clear hqf
    clear hs h hov hi hz0 hz1 hz2 hgb hgr hz fc hlen hne hav hF
    go_enter Tryz.func78, Tryz.ntmps78
    clear f0
    go_wp2_with (first | (go_at_call 43; (with_reducible refine (HS.out _ HH.out.own).mono ?_); rintro e w0 ⟨rfl, rfl⟩) | (go_at_call 127; (with_reducible refine (QL.out _ (SameH.refl _)).mono ?_); rintro e w5 ⟨rfl, hs5⟩; have HS5 := Lib.hid hs5; have fc5 := hs5.cell HC.out; clear hs5))
    go_region_law (first
      | (go_simp; go_at_call 124; (with_reducible refine (Q.out _ HS5.out.drew).mono ?_); intro e w1 hT; rcases take_cases hT with ⟨hn, rfl, hg⟩ | ⟨y, l, v1, hn, rfl, ho, hw, hg⟩; exact ⟨rfl, st_bad HH ((SameH.grown HS5.out.drew _).trans hg) (paramD_none hn)⟩; have HSA : Hid (SameH w _) := HS5.out.drew; have HT := Lib.hid ((HSA.out.st HH.out).took ho hw hg); have HN := Lib.hid hn; have HG := Lib.hid ((HSA.out.grown _).trans hg); obtain ⟨f1b, z1b, l1b⟩ := grown_cell hg HGN.out (HSA.out.cell HC.out) (HSA.out.thaw (HZ.out (m * 5 + 2))); have f1d := al_cell (x := .cells #[str y.name, str y.type] 93) f1b; clear hT hn ho hw hg)
      | (refine step_grow (w0 := w1) rfl _ _ 23 (by rfl) base 93 i0 (.agg #[.string ⟨#[]⟩, .string ⟨#[]⟩]) 2 32 Tryz.underlying23 Hi.out Hz0.out Hz1.out Hz2.out rfl (by decide) (by decide) a.R (HQF.out.2.1).1 (HQF.out.2.1).2.1 (by rfl) (HT.out.on (by simp [Act.l])) [str y.name, str y.type] _ rfl (by rfl) rfl (ones_var _ _) (by omega) HT.out.high ?_; intro g cap w2 hG; have HGR := Lib.hid hG; have ho2 := own_grown HT.out hG (by simp [Act.l]); obtain ⟨f1c, z1c, l1c⟩ := grew_cell hG l1b (ap_ne (A := [a.C, a.F, a.G, a.E, a.U]) (B := [a.V, a.B, a.H, a.K, a.M, a.O] ++ D) (x := a.U) HT.out.bld.ap (by simp) (by rw [HAV.out]; rfl)) f1b z1b; have HO2 : Hid (OwnR (w2.setCell ⟨g0, (m * 5 + 2), none⟩ (.slice (some ⟨g, 0, none⟩) (a.R.n + 1) cap)) rb { rc with rest := v1 }) := Lib.hid (own_set ho2 HGN.out _); clear hG ho2))
    all_goals
      go_wp2_with (go_at_call 123; (with_reducible refine (limit_any _ _ HO2.out).mono ?_); rintro e w3 ⟨rfl, ho3, hg3, _⟩; have HO3 := Lib.hid ho3; have HG3 := Lib.hid hg3; obtain ⟨f5, z5, l5⟩ := own_at5 ho3; clear ho3 hg3)
      go_end0
      have hB := Build.param (g0 := g0) (cap := cap0) (al_build HT.out.bld (.cells #[str y.name, str y.type] 93)) y HNE.out HGR.out (by rw [HAV.out, HH.out.bld.sh.u.2.2.1, HL.out]) hN
      rw [HL.out, Nat.add_sub_cancel] at hB
      obtain ⟨b1, b2, b3⟩ := inner_end HT.out HG.out HH.out.high (by simp [Act.l]) HGR.out hB HGB.out HG3.out
      exact Meth.ok (p2 := { p with funcs := Syn.last (fun f => { f with params := f.params ++ [y] }) p.funcs }) b1 (by unfold paramD; rw [if_neg (by rw [HSB.out]; simp), HN.out]) (HT.out.finish b2 (rcf := { rc with rest := v1, over := rc.over || decide ((6 : Int) < ((a.R.n + 1 : Nat) : Int)) }) HO3.out b3 HT.out.ssa HT.out.c HT.out.g HT.out.e HT.out.u rfl) rfl rfl (by rw [HV.out, Bool.false_or, (HQF.out.2.1).2.2.1]) rfl
  · have hs : stB rc.place 8 = false := by simpa using hs
    rw [paramD_no hs]
    have Q := Lib.hid (stands_no h.own hs)
    clear h hs
    go_enter Tryz.func78, Tryz.ntmps78
    go_wp2_with (go_at_call 43; (with_reducible refine (Q.out).mono ?_); rintro e w1 ⟨rfl, rfl⟩)
    exact ⟨rfl, Beside.refl _ _ _, rfl⟩

/-- variable. -/
def varD (p : Prog) (pl lg : Int) (ws : List Wd) : Out :=
  if stB pl 24 = false then none else match takeVar ws with
  | none => none
  | some (y, l) => some ({ p with funcs := Syn.last (fun f => { f with vars := f.vars ++ [y] }) p.funcs }, 16, lg, decide ((1024 : Int) < (((p.funcs.getLast?.getD funcZ).vars.length + 1 : Nat) : Int)), l)
theorem varD_none {pl lg : Int} (h : takeVar ws = none) : varD p pl lg ws = none := by
  unfold varD
  rw [h]
  split <;> rfl
theorem varD_no {pl lg : Int} (h : stB pl 24 = false) : varD p pl lg ws = none := by unfold varD; rw [if_pos h]
set_option maxRecDepth 100000 in
set_option maxHeartbeats 4000000 in
theorem var_any (h : St w base rb lo hi rc a D p N ws) (hov : rc.over = false) (hN : N < 1073741824) (hF : stB rc.place 24 = true → p.funcs ≠ []) :
    Calls Tryz.prog 79 #[ptr rb] w (Meth base rb lo hi (N + 1) rc.first w (varD p rc.place rc.long ws)) := by
  by_cases hs : stB rc.place 24 = true
  · have hne := hF hs
    have HSB := Lib.hid hs
    have HS := Lib.hid fun w (hO : OwnR w rb rc) => stands_yes hO hs
    have Q := Lib.hid fun w' (hw : SameH w w') => declared_take (hw.st h).own (hw.st h).wds (hw.st h).low
    obtain ⟨m, g0, cap0, hlen, hav, hgb, hgl, hm, fR, fV, fB, hz, hqf⟩ := func_path h hne
    have fc := fV
    clear fR fV fB
    have HH := Lib.hid h
    have HV := Lib.hid hov
    obtain ⟨i0, hi, hz0, hz1, hz2⟩ := info_parts var_info
    have Hi := Lib.hid hi
    have Hz0 := Lib.hid hz0
    have Hz1 := Lib.hid hz1
    have Hz2 := Lib.hid hz2
    have hcn : a.V.n ≤ N := h.bld.few _ (by simp [Act.l])
    have HGB := Lib.hid hgb
    have hgr : g0 ≠ rb := by have := h.mid; omega
    have HGN := Lib.hid hgr
    have HZ := Lib.hid hz
    have HC := Lib.hid fc
    have HL := Lib.hid hlen
    have HNE := Lib.hid hne
    have HAV := Lib.hid hav
    have f0 := h.cells.2.2.2.2.1
    rw [hav] at f0
    have QL := Lib.hid fun w' (hw : SameH w w') => lastFunc_any (hw.cell f0) hm
    have HQF := Lib.hid hqf
    clear hqf
    clear hs h hov hi hz0 hz1 hz2 hgb hgr hz fc hlen hne hav hF
    go_enter Tryz.func79, Tryz.ntmps79
    clear f0
    go_wp2_with (first | (go_at_call 43; (with_reducible refine (HS.out _ HH.out.own).mono ?_); rintro e w0 ⟨rfl, rfl⟩) | (go_at_call 127; (with_reducible refine (QL.out _ (SameH.refl _)).mono ?_); rintro e w5 ⟨rfl, hs5⟩; have HS5 := Lib.hid hs5; have fc5 := hs5.cell HC.out; clear hs5))
    go_region_law (first
      | (go_simp; go_at_call 124; (with_reducible refine (Q.out _ HS5.out.drew).mono ?_); intro e w1 hT; rcases take_cases hT with ⟨hn, rfl, hg⟩ | ⟨y, l, v1, hn, rfl, ho, hw, hg⟩; exact ⟨rfl, st_bad HH ((SameH.grown HS5.out.drew _).trans hg) (varD_none hn)⟩; have HSA : Hid (SameH w _) := HS5.out.drew; have HT := Lib.hid ((HSA.out.st HH.out).took ho hw hg); have HN := Lib.hid hn; have HG := Lib.hid ((HSA.out.grown _).trans hg); obtain ⟨f1b, z1b, l1b⟩ := grown_cell hg HGN.out (HSA.out.cell HC.out) (HSA.out.thaw (HZ.out (m * 5 + 3))); have f1d := al_cell (x := .cells #[str y.name, str y.type] 93) f1b; clear hT hn ho hw hg)
      | (refine step_grow (w0 := w1) rfl _ _ 23 (by rfl) base 93 i0 (.agg #[.string ⟨#[]⟩, .string ⟨#[]⟩]) 2 32 Tryz.underlying23 Hi.out Hz0.out Hz1.out Hz2.out rfl (by decide) (by decide) a.V (HQF.out.2.2.1).1 (HQF.out.2.2.1).2.1 (by rfl) (HT.out.on (by simp [Act.l])) [str y.name, str y.type] _ rfl (by rfl) rfl (ones_var _ _) (by omega) HT.out.high ?_; intro g cap w2 hG; have HGR := Lib.hid hG; have ho2 := own_grown HT.out hG (by simp [Act.l]); obtain ⟨f1c, z1c, l1c⟩ := grew_cell hG l1b (ap_ne (A := [a.C, a.F, a.G, a.E, a.U, a.R]) (B := [a.B, a.H, a.K, a.M, a.O] ++ D) (x := a.U) HT.out.bld.ap (by simp) (by rw [HAV.out]; rfl)) f1b z1b; have HO2 : Hid (OwnR (w2.setCell ⟨g0, (m * 5 + 3), none⟩ (.slice (some ⟨g, 0, none⟩) (a.V.n + 1) cap)) rb { rc with rest := v1 }) := Lib.hid (own_set ho2 HGN.out _); clear hG ho2))
    all_goals
      go_wp2_with (go_at_call 123; (with_reducible refine (limit_any _ _ HO2.out).mono ?_); rintro e w3 ⟨rfl, ho3, hg3, _⟩; have HO3 := Lib.hid ho3; have HG3 := Lib.hid hg3; obtain ⟨f5, z5, l5⟩ := own_at5 ho3; clear ho3 hg3)
      go_end0
      have hB := Build.var (g0 := g0) (cap := cap0) (al_build HT.out.bld (.cells #[str y.name, str y.type] 93)) y HNE.out HGR.out (by rw [HAV.out, HH.out.bld.sh.u.2.2.1, HL.out]) hN
      rw [HL.out, Nat.add_sub_cancel] at hB
      obtain ⟨b1, b2, b3⟩ := inner_end HT.out HG.out HH.out.high (by simp [Act.l]) HGR.out hB HGB.out HG3.out
      exact Meth.ok (p2 := { p with funcs := Syn.last (fun f => { f with vars := f.vars ++ [y] }) p.funcs }) (b1.set (p := ⟨rb, 5, none⟩) (.inr rfl) _) (by unfold varD; rw [if_neg (by rw [HSB.out]; simp), HN.out]) (HT.out.finish (b2.set (p := ⟨rb, 5, none⟩) (.inr rfl) _) (rcf := { rc with rest := v1, over := rc.over || decide ((1024 : Int) < ((a.V.n + 1 : Nat) : Int)), place := 16 }) (HO3.out.store 5 _) (rb_set b3 HH.out.mid 5 _) HT.out.ssa HT.out.c HT.out.g HT.out.e HT.out.u rfl) rfl rfl (by rw [HV.out, Bool.false_or, (HQF.out.2.2.1).2.2.1]) rfl
  · have hs : stB rc.place 24 = false := by simpa using hs
    rw [varD_no hs]
    have Q := Lib.hid (stands_no h.own hs)
    clear h hs
    go_enter Tryz.func79, Tryz.ntmps79
    go_wp2_with (go_at_call 43; (with_reducible refine (Q.out).mono ?_); rintro e w1 ⟨rfl, rfl⟩)
    exact ⟨rfl, Beside.refl _ _ _, rfl⟩

/-- block. -/
def blockD (p : Prog) (pl lg : Int) (ws : List Wd) : Out :=
  if stB pl 536 = false then none else match takeName ws with
  | none => none
  | some (x, l) => some ({ p with funcs := Syn.last (fun f => { f with blocks := f.blocks ++ [⟨x, [], [], termZ⟩] }) p.funcs }, 32, lg, decide ((256 : Int) < (((p.funcs.getLast?.getD funcZ).blocks.length + 1 : Nat) : Int)), l)
theorem blockD_none {pl lg : Int} (h : takeName ws = none) : blockD p pl lg ws = none := by
  unfold blockD
  rw [h]
  split <;> rfl
theorem blockD_no {pl lg : Int} (h : stB pl 536 = false) : blockD p pl lg ws = none := by unfold blockD; rw [if_pos h]
set_option maxRecDepth 100000 in
set_option maxHeartbeats 4000000 in
theorem block_any (h : St w base rb lo hi rc a D p N ws) (hov : rc.over = false) (hN : N < 1073741824) (hF : stB rc.place 536 = true → p.funcs ≠ []) :
    Calls Tryz.prog 80 #[ptr rb] w (Meth base rb lo hi (N + 1) rc.first w (blockD p rc.place rc.long ws)) := by
  by_cases hs : stB rc.place 536 = true
  · have hne := hF hs
    have HSB := Lib.hid hs
    have HS := Lib.hid fun w (hO : OwnR w rb rc) => stands_yes hO hs
    have Q := Lib.hid fun w' (hw : SameH w w') => name_take (hw.st h).own (hw.st h).wds (hw.st h).low
    obtain ⟨m, g0, cap0, hlen, hav, hgb, hgl, hm, fR, fV, fB, hz, hqf⟩ := func_path h hne
    have fc := fB
    clear fR fV fB
    have HH := Lib.hid h
    have HV := Lib.hid hov
    obtain ⟨i0, hi, hz0, hz1, hz2⟩ := info_parts blk_info
    have Hi := Lib.hid hi
    have Hz0 := Lib.hid hz0
    have Hz1 := Lib.hid hz1
    have Hz2 := Lib.hid hz2
    have hcn : a.B.n ≤ N := h.bld.few _ (by simp [Act.l])
    have HGB := Lib.hid hgb
    have hgr : g0 ≠ rb := by have := h.mid; omega
    have HGN := Lib.hid hgr
    have HZ := Lib.hid hz
    have HC := Lib.hid fc
    have HL := Lib.hid hlen
    have HNE := Lib.hid hne
    have HAV := Lib.hid hav
    have f0 := h.cells.2.2.2.2.1
    rw [hav] at f0
    have QL := Lib.hid fun w' (hw : SameH w w') => lastFunc_any (hw.cell f0) hm
    have HQF := Lib.hid hqf
    clear hqf
    clear hs h hov hi hz0 hz1 hz2 hgb hgr hz fc hlen hne hav hF
    go_enter Tryz.func80, Tryz.ntmps80
    clear f0
    go_wp2_with (first | (go_at_call 43; (with_reducible refine (HS.out _ HH.out.own).mono ?_); rintro e w0 ⟨rfl, rfl⟩) | (go_at_call 127; (with_reducible refine (QL.out _ (SameH.refl _)).mono ?_); rintro e w5 ⟨rfl, hs5⟩; have HS5 := Lib.hid hs5; have fc5 := hs5.cell HC.out; clear hs5))
    go_region_law (first
      | (go_simp; go_at_call 122; (with_reducible refine (Q.out _ HS5.out.drew).mono ?_); intro e w1 hT; rcases take_cases hT with ⟨hn, rfl, hg⟩ | ⟨x, l, v1, hn, rfl, ho, hw, hg⟩; exact ⟨rfl, st_bad HH ((SameH.grown HS5.out.drew _).trans hg) (blockD_none hn)⟩; have HSA : Hid (SameH w _) := HS5.out.drew; have HT := Lib.hid ((HSA.out.st HH.out).took ho hw hg); have HN := Lib.hid hn; have HG := Lib.hid ((HSA.out.grown _).trans hg); obtain ⟨f1b, z1b, l1b⟩ := grown_cell hg HGN.out (HSA.out.cell HC.out) (HSA.out.thaw (HZ.out (m * 5 + 4))); have f1d := al_cell (x := .cells #[str x, .slice none 0 0, .slice none 0 0, i64 0, i64 0, str [], i64 0, .slice none 0 0, i64 0] 47) f1b; clear hT hn ho hw hg)
      | (refine step_grow (w0 := w1) rfl _ _ 36 (by rfl) base 47 i0 (.agg #[.string ⟨#[]⟩, .slice none 0 0, .slice none 0 0, .int .i64 0, .int .i64 0, .string ⟨#[]⟩, .int .i64 0, .slice none 0 0, .int .i64 0]) 9 136 Tryz.underlying36 Hi.out Hz0.out Hz1.out Hz2.out rfl (by decide) (by decide) a.B (HQF.out.2.2.2).1 (HQF.out.2.2.2).2.1 (by rfl) (HT.out.on (by simp [Act.l])) [str x, .slice none 0 0, .slice none 0 0, i64 0, i64 0, str [], i64 0, .slice none 0 0, i64 0] _ rfl (by rfl) rfl (ones_blk _) (by omega) HT.out.high ?_; intro g cap w2 hG; have HGR := Lib.hid hG; have ho2 := own_grown HT.out hG (by simp [Act.l]); obtain ⟨f1c, z1c, l1c⟩ := grew_cell hG l1b (ap_ne (A := [a.C, a.F, a.G, a.E, a.U, a.R, a.V]) (B := [a.H, a.K, a.M, a.O] ++ D) (x := a.U) HT.out.bld.ap (by simp) (by rw [HAV.out]; rfl)) f1b z1b; have HO2 : Hid (OwnR (w2.setCell ⟨g0, (m * 5 + 4), none⟩ (.slice (some ⟨g, 0, none⟩) (a.B.n + 1) cap)) rb { rc with rest := v1 }) := Lib.hid (own_set ho2 HGN.out _); clear hG ho2))
    all_goals
      go_wp2_with (go_at_call 123; (with_reducible refine (limit_any _ _ HO2.out).mono ?_); rintro e w3 ⟨rfl, ho3, hg3, _⟩; have HO3 := Lib.hid ho3; have HG3 := Lib.hid hg3; obtain ⟨f5, z5, l5⟩ := own_at5 ho3; clear ho3 hg3)
      go_end0
      have hB := Build.block (g0 := g0) (cap := cap0) (al_build HT.out.bld (.cells #[str x, .slice none 0 0, .slice none 0 0, i64 0, i64 0, str [], i64 0, .slice none 0 0, i64 0] 47)) x HNE.out HGR.out (by rw [HAV.out, HH.out.bld.sh.u.2.2.1, HL.out]) hN
      rw [HL.out, Nat.add_sub_cancel] at hB
      obtain ⟨b1, b2, b3⟩ := inner_end HT.out HG.out HH.out.high (by simp [Act.l]) HGR.out hB HGB.out HG3.out
      exact Meth.ok (p2 := { p with funcs := Syn.last (fun f => { f with blocks := f.blocks ++ [⟨x, [], [], termZ⟩] }) p.funcs }) (b1.set (p := ⟨rb, 5, none⟩) (.inr rfl) _) (by unfold blockD; rw [if_neg (by rw [HSB.out]; simp), HN.out]) (HT.out.finish (b2.set (p := ⟨rb, 5, none⟩) (.inr rfl) _) (rcf := { rc with rest := v1, over := rc.over || decide ((256 : Int) < ((a.B.n + 1 : Nat) : Int)), place := 32 }) (HO3.out.store 5 _) (rb_set b3 HH.out.mid 5 _) HT.out.ssa HT.out.c HT.out.g HT.out.e HT.out.u rfl) rfl rfl (by rw [HV.out, Bool.false_or, (HQF.out.2.2.2).2.2.1]) rfl
  · have hs : stB rc.place 536 = false := by simpa using hs
    rw [blockD_no hs]
    have Q := Lib.hid (stands_no h.own hs)
    clear h hs
    go_enter Tryz.func80, Tryz.ntmps80
    go_wp2_with (go_at_call 43; (with_reducible refine (Q.out).mono ?_); rintro e w1 ⟨rfl, rfl⟩)
    exact ⟨rfl, Beside.refl _ _ _, rfl⟩
end Go.Proofs.YtkmndgjabkjafaaGreatDoor.Rd5
