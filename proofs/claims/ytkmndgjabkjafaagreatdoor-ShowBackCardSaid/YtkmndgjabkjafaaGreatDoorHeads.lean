/-
  Package syntax: a line that is no part of a function: class, global, extern, func.
-/
import Derived.Test.YtkmndgjabkjafaaGreatDoorRdrT
namespace Go.Proofs.YtkmndgjabkjafaaGreatDoor.Rd5
open Go.RowKit Api Hold Mem Syn WordM Tree

variable {w w' w1 w2 : World} {lo hi rb base N : Nat} {rc : RC} {v : Value} {l ws : List Wd} {row : Option Nat} {a : Tree.Act} {D : List Rec} {p : Prog}
theorem cls_info : (Tryz.prog.info? 78).map (fun i => (i.zero, i.size, i.bytes)) = some (some (.agg #[.string ⟨#[]⟩, .slice none 0 0]), 2, 40) := by kernel_rfl
theorem var_info : (Tryz.prog.info? 93).map (fun i => (i.zero, i.size, i.bytes)) = some (some (.agg #[.string ⟨#[]⟩, .string ⟨#[]⟩]), 2, 32) := by kernel_rfl
theorem ext_info : (Tryz.prog.info? 80).map (fun i => (i.zero, i.size, i.bytes)) = some (some (.agg #[.string ⟨#[]⟩, .int .i64 0]), 2, 24) := by kernel_rfl
theorem fn_info : (Tryz.prog.info? 38).map (fun i => (i.zero, i.size, i.bytes)) = some (some (.agg #[.string ⟨#[]⟩, .string ⟨#[]⟩, .slice none 0 0, .slice none 0 0, .slice none 0 0]), 5, 104) := by kernel_rfl
theorem ones_class (x : Wd) : ∀ u ∈ [str x, .slice none 0 0], u.oneCell' = true := by
  intro u hu
  simp only [List.mem_cons, List.not_mem_nil, or_false] at hu
  rcases hu with rfl | rfl <;> rfl
theorem ones_var (x y : Wd) : ∀ u ∈ [str x, str y], u.oneCell' = true := by
  intro u hu
  simp only [List.mem_cons, List.not_mem_nil, or_false] at hu
  rcases hu with rfl | rfl <;> rfl
theorem ones_ext (x : Wd) (n : Int) : ∀ u ∈ [str x, i64 n], u.oneCell' = true := by
  intro u hu
  simp only [List.mem_cons, List.not_mem_nil, or_false] at hu
  rcases hu with rfl | rfl <;> rfl
theorem ones_fn (x y : Wd) : ∀ u ∈ [str x, str y, .slice none 0 0, .slice none 0 0, .slice none 0 0], u.oneCell' = true := by
  intro u hu
  simp only [List.mem_cons, List.not_mem_nil, or_false] at hu
  rcases hu with rfl | rfl | rfl | rfl | rfl <;> rfl

/-- class. -/
def classD (p : Prog) (pl lg : Int) (ws : List Wd) : Out :=
  if stB pl 519 = false then none else match takeName ws with
  | none => none
  | some (x, l) => some ({ p with classes := p.classes ++ [⟨x, []⟩] }, 4, lg, decide ((8 : Int) < ((p.classes.length + 1 : Nat) : Int)), l)
theorem classD_none {pl lg : Int} (h : takeName ws = none) : classD p pl lg ws = none := by
  unfold classD
  rw [h]
  split <;> rfl
theorem classD_no {pl lg : Int} (h : stB pl 519 = false) : classD p pl lg ws = none := by unfold classD; rw [if_pos h]
set_option maxRecDepth 100000 in
set_option maxHeartbeats 4000000 in
theorem class_any (h : St w base rb lo hi rc a D p N ws) (hov : rc.over = false) (hN : N < 1073741824) :
    Calls Tryz.prog 73 #[ptr rb] w (Meth base rb lo hi (N + 1) rc.first w (classD p rc.place rc.long ws)) := by
  by_cases hs : stB rc.place 519 = true
  · have HSB := Lib.hid hs
    have HS := Lib.hid fun w (hO : OwnR w rb rc) => stands_yes hO hs
    have Q := Lib.hid (name_take h.drew.own h.drew.wds h.low)
    have HD := Lib.hid h.drew
    have f1 := h.cells.2.1
    have HH := Lib.hid h
    have HV := Lib.hid hov
    obtain ⟨i0, hi, hz0, hz1, hz2⟩ := info_parts cls_info
    have Hi := Lib.hid hi
    have Hz0 := Lib.hid hz0
    have Hz1 := Lib.hid hz1
    have Hz2 := Lib.hid hz2
    have hcn : a.C.n ≤ N := h.bld.few _ (by simp [Act.l])
    clear hs h hov hi hz0 hz1 hz2
    go_enter Tryz.func73, Tryz.ntmps73
    go_wp2_with (go_at_call 43; (with_reducible refine (HS.out _ HH.out.own).mono ?_); rintro e w0 ⟨rfl, rfl⟩)
    go_region_law (first
      | (go_simp; go_at_call 122; (with_reducible refine (Q.out).mono ?_); intro e w1 hT; rcases take_cases hT with ⟨hn, rfl, hg⟩ | ⟨x, l, v1, hn, rfl, ho, hw, hg⟩; exact ⟨rfl, st_bad HH (gr_undrew hg) (classD_none hn)⟩; have HT := Lib.hid (HD.out.took ho hw hg); have HN := Lib.hid hn; have HG := Lib.hid hg; have f1b := HT.out.cells.2.1; have f1d := al_cell (x := .cells #[str x, .slice none 0 0] 78) f1b; clear hT hn ho hw hg)
      | (refine step_grow (w0 := w1) rfl _ _ 22 (by rfl) base 78 i0 (.agg #[.string ⟨#[]⟩, .slice none 0 0]) 2 40 Tryz.underlying22 Hi.out Hz0.out Hz1.out Hz2.out rfl (by decide) (by decide) a.C HH.out.bld.sh.c.1 HH.out.bld.sh.c.2.1 (by rfl) (HT.out.on (by simp [Act.l])) [str x, .slice none 0 0] _ rfl (by rfl) rfl (ones_class _) (by omega) HT.out.high ?_; intro g cap w2 hG; have HGR := Lib.hid hG; have ho2 := own_grown HT.out hG (by simp [Act.l]); obtain ⟨f1c, z1c, l1c⟩ := own_at1 ho2; have HO2 : Hid (OwnR (w2.setCell ⟨rb, 1, none⟩ (.slice (some ⟨g, 0, none⟩) (a.C.n + 1) cap)) rb { rc with rest := v1, c := (.slice (some ⟨g, 0, none⟩) (a.C.n + 1) cap) }) := Lib.hid (ho2.store 1 _); clear hG ho2))
    all_goals
      go_wp2_with (go_at_call 123; (with_reducible refine (limit_any _ _ HO2.out).mono ?_); rintro e w3 ⟨rfl, ho3, hg3, _⟩; have HO3 := Lib.hid ho3; have HG3 := Lib.hid hg3; obtain ⟨f5, z5, l5⟩ := own_at5 ho3; obtain ⟨f6, z6, l6⟩ := own_at6 ho3; clear ho3 hg3)
      go_end0
      have hB := Build.cls (al_build HT.out.bld (.cells #[str x, .slice none 0 0] 78)) x HGR.out hN
      obtain ⟨b1, b2, b3⟩ := head_end HT.out (gr_undrew HG.out) HH.out.high (by simp [Act.l]) HGR.out hB HG3.out
      exact Meth.ok (p2 := { p with classes := p.classes ++ [⟨x, []⟩] }) (b1.set (p := ⟨rb, 5, none⟩) (.inr rfl) _) (by unfold classD; rw [if_neg (by rw [HSB.out]; simp), HN.out]) (HT.out.finish (b2.set (p := ⟨rb, 5, none⟩) (.inr rfl) _) (rcf := { rc with rest := v1, c := (.slice (some ⟨g, 0, none⟩) (a.C.n + 1) cap), over := rc.over || decide ((8 : Int) < ((a.C.n + 1 : Nat) : Int)), place := 4 }) (HO3.out.store 5 _) (rb_set b3 HH.out.mid 5 _) HT.out.ssa rfl HT.out.g HT.out.e HT.out.u rfl) rfl rfl (by rw [HV.out, Bool.false_or, HH.out.bld.sh.c.2.2.1]) rfl
  · have hs : stB rc.place 519 = false := by simpa using hs
    rw [classD_no hs]
    have Q := Lib.hid (stands_no h.own hs)
    clear h hs
    go_enter Tryz.func73, Tryz.ntmps73
    go_wp2_with (go_at_call 43; (with_reducible refine (Q.out).mono ?_); rintro e w1 ⟨rfl, rfl⟩)
    exact ⟨rfl, Beside.refl _ _ _, rfl⟩

/-- global. -/
def globalD (p : Prog) (pl lg : Int) (ws : List Wd) : Out :=
  if stB pl 519 = false then none else match takeVar ws with
  | none => none
  | some (y, l) => some ({ p with globals := p.globals ++ [y] }, 2, lg, decide ((8 : Int) < ((p.globals.length + 1 : Nat) : Int)), l)
theorem globalD_none {pl lg : Int} (h : takeVar ws = none) : globalD p pl lg ws = none := by
  unfold globalD
  rw [h]
  split <;> rfl
theorem globalD_no {pl lg : Int} (h : stB pl 519 = false) : globalD p pl lg ws = none := by unfold globalD; rw [if_pos h]
set_option maxRecDepth 100000 in
set_option maxHeartbeats 4000000 in
theorem global_any (h : St w base rb lo hi rc a D p N ws) (hov : rc.over = false) (hN : N < 1073741824) :
    Calls Tryz.prog 75 #[ptr rb] w (Meth base rb lo hi (N + 1) rc.first w (globalD p rc.place rc.long ws)) := by
  by_cases hs : stB rc.place 519 = true
  · have HSB := Lib.hid hs
    have HS := Lib.hid fun w (hO : OwnR w rb rc) => stands_yes hO hs
    have Q := Lib.hid (declared_take h.drew.own h.drew.wds h.low)
    have HD := Lib.hid h.drew
    have f1 := h.cells.2.2.1
    have HH := Lib.hid h
    have HV := Lib.hid hov
    obtain ⟨i0, hi, hz0, hz1, hz2⟩ := info_parts var_info
    have Hi := Lib.hid hi
    have Hz0 := Lib.hid hz0
    have Hz1 := Lib.hid hz1
    have Hz2 := Lib.hid hz2
    have hcn : a.G.n ≤ N := h.bld.few _ (by simp [Act.l])
    clear hs h hov hi hz0 hz1 hz2
    go_enter Tryz.func75, Tryz.ntmps75
    go_wp2_with (go_at_call 43; (with_reducible refine (HS.out _ HH.out.own).mono ?_); rintro e w0 ⟨rfl, rfl⟩)
    go_region_law (first
      | (go_simp; go_at_call 124; (with_reducible refine (Q.out).mono ?_); intro e w1 hT; rcases take_cases hT with ⟨hn, rfl, hg⟩ | ⟨y, l, v1, hn, rfl, ho, hw, hg⟩; exact ⟨rfl, st_bad HH (gr_undrew hg) (globalD_none hn)⟩; have HT := Lib.hid (HD.out.took ho hw hg); have HN := Lib.hid hn; have HG := Lib.hid hg; have f1b := HT.out.cells.2.2.1; have f1d := al_cell (x := .cells #[str y.name, str y.type] 93) f1b; clear hT hn ho hw hg)
      | (refine step_grow (w0 := w1) rfl _ _ 23 (by rfl) base 93 i0 (.agg #[.string ⟨#[]⟩, .string ⟨#[]⟩]) 2 32 Tryz.underlying23 Hi.out Hz0.out Hz1.out Hz2.out rfl (by decide) (by decide) a.G HH.out.bld.sh.g.1 HH.out.bld.sh.g.2.1 (by rfl) (HT.out.on (by simp [Act.l])) [str y.name, str y.type] _ rfl (by rfl) rfl (ones_var _ _) (by omega) HT.out.high ?_; intro g cap w2 hG; have HGR := Lib.hid hG; have ho2 := own_grown HT.out hG (by simp [Act.l]); obtain ⟨f1c, z1c, l1c⟩ := own_at2 ho2; have HO2 : Hid (OwnR (w2.setCell ⟨rb, 2, none⟩ (.slice (some ⟨g, 0, none⟩) (a.G.n + 1) cap)) rb { rc with rest := v1, g := (.slice (some ⟨g, 0, none⟩) (a.G.n + 1) cap) }) := Lib.hid (ho2.store 2 _); clear hG ho2))
    all_goals
      go_wp2_with (go_at_call 123; (with_reducible refine (limit_any _ _ HO2.out).mono ?_); rintro e w3 ⟨rfl, ho3, hg3, _⟩; have HO3 := Lib.hid ho3; have HG3 := Lib.hid hg3; obtain ⟨f5, z5, l5⟩ := own_at5 ho3; obtain ⟨f6, z6, l6⟩ := own_at6 ho3; clear ho3 hg3)
      go_end0
      have hB := Build.global (al_build HT.out.bld (.cells #[str y.name, str y.type] 93)) y HGR.out hN
      obtain ⟨b1, b2, b3⟩ := head_end HT.out (gr_undrew HG.out) HH.out.high (by simp [Act.l]) HGR.out hB HG3.out
      exact Meth.ok (p2 := { p with globals := p.globals ++ [y] }) (b1.set (p := ⟨rb, 5, none⟩) (.inr rfl) _) (by unfold globalD; rw [if_neg (by rw [HSB.out]; simp), HN.out]) (HT.out.finish (b2.set (p := ⟨rb, 5, none⟩) (.inr rfl) _) (rcf := { rc with rest := v1, g := (.slice (some ⟨g, 0, none⟩) (a.G.n + 1) cap), over := rc.over || decide ((8 : Int) < ((a.G.n + 1 : Nat) : Int)), place := 2 }) (HO3.out.store 5 _) (rb_set b3 HH.out.mid 5 _) HT.out.ssa HT.out.c rfl HT.out.e HT.out.u rfl) rfl rfl (by rw [HV.out, Bool.false_or, HH.out.bld.sh.g.2.2.1]) rfl
  · have hs : stB rc.place 519 = false := by simpa using hs
    rw [globalD_no hs]
    have Q := Lib.hid (stands_no h.own hs)
    clear h hs
    go_enter Tryz.func75, Tryz.ntmps75
    go_wp2_with (go_at_call 43; (with_reducible refine (Q.out).mono ?_); rintro e w1 ⟨rfl, rfl⟩)
    exact ⟨rfl, Beside.refl _ _ _, rfl⟩

/-- extern. -/
def externD (p : Prog) (pl lg : Int) (ws : List Wd) : Out :=
  if stB pl 519 = false then none else match takeName ws with
  | none => none
  | some (x, l) => match takeCount 8 l with
    | none => none
    | some (n, l) => some ({ p with externs := p.externs ++ [⟨x, n⟩] }, 2, lg, decide ((8 : Int) < ((p.externs.length + 1 : Nat) : Int)), l)
theorem externD_none {pl lg : Int} (h : takeName ws = none) : externD p pl lg ws = none := by
  unfold externD
  rw [h]
  split <;> rfl
theorem externD_none2 {pl lg : Int} {x : Wd} (h : takeName ws = some (x, l)) (h2 : takeCount 8 l = none) : externD p pl lg ws = none := by
  unfold externD
  rw [h]
  simp only
  rw [h2]
  split <;> rfl
theorem externD_no {pl lg : Int} (h : stB pl 519 = false) : externD p pl lg ws = none := by unfold externD; rw [if_pos h]
set_option maxRecDepth 100000 in
set_option maxHeartbeats 4000000 in
theorem extern_any (h : St w base rb lo hi rc a D p N ws) (hov : rc.over = false) (hN : N < 1073741824) :
    Calls Tryz.prog 76 #[ptr rb] w (Meth base rb lo hi (N + 1) rc.first w (externD p rc.place rc.long ws)) := by
  by_cases hs : stB rc.place 519 = true
  · have HSB := Lib.hid hs
    have HS := Lib.hid fun w (hO : OwnR w rb rc) => stands_yes hO hs
    have Q := Lib.hid (name_take h.own h.wds h.low)
    have HH := Lib.hid h
    have HV := Lib.hid hov
    obtain ⟨i0, hi, hz0, hz1, hz2⟩ := info_parts ext_info
    have Hi := Lib.hid hi
    have Hz0 := Lib.hid hz0
    have Hz1 := Lib.hid hz1
    have Hz2 := Lib.hid hz2
    have hcn : a.E.n ≤ N := h.bld.few _ (by simp [Act.l])
    clear hs h hov hi hz0 hz1 hz2
    go_enter Tryz.func76, Tryz.ntmps76
    go_wp2_with (first
      | (go_at_call 43; (with_reducible refine (HS.out _ HH.out.own).mono ?_); rintro e w0 ⟨rfl, rfl⟩)
      | (go_at_call 122; (with_reducible refine (Q.out).mono ?_); intro e w0 hT; rcases take_cases hT with ⟨hn, rfl, hg⟩ | ⟨x, l0, v0, hn, rfl, ho, hw, hg⟩; exact ⟨rfl, st_bad HH hg (externD_none hn)⟩; have HN0 := Lib.hid hn; have HG0 := Lib.hid hg; have hT0 := HH.out.took ho hw hg; have Q2 := Lib.hid (count_take 8 hT0.drew.own hT0.drew.wds hT0.low); have f1 := hT0.cells.2.2.2.1; have HD := Lib.hid hT0.drew; clear hT hn ho hw hg hT0))
    go_region_law (first
      | (go_simp; go_at_call 125; (with_reducible refine (Q2.out).mono ?_); intro e w1 hT; rcases take_cases hT with ⟨hn, rfl, hg⟩ | ⟨n, l, v1, hn, rfl, ho, hw, hg⟩; exact ⟨rfl, st_bad HH (HG0.out.trans (gr_undrew hg)) (externD_none2 HN0.out hn)⟩; have HT := Lib.hid (HD.out.took ho hw hg); have HN := Lib.hid hn; have HG := Lib.hid hg; have f1b := HT.out.cells.2.2.2.1; have f1d := al_cell (x := .cells #[str x, i64 n] 80) f1b; clear hT hn ho hw hg)
      | (refine step_grow (w0 := w1) rfl _ _ 24 (by rfl) base 80 i0 (.agg #[.string ⟨#[]⟩, .int .i64 0]) 2 24 Tryz.underlying24 Hi.out Hz0.out Hz1.out Hz2.out rfl (by decide) (by decide) a.E HH.out.bld.sh.e.1 HH.out.bld.sh.e.2.1 (by rfl) (HT.out.on (by simp [Act.l])) [str x, i64 n] _ rfl (by rfl) rfl (ones_ext _ _) (by omega) HT.out.high ?_; intro g cap w2 hG; have HGR := Lib.hid hG; have ho2 := own_grown HT.out hG (by simp [Act.l]); obtain ⟨f1c, z1c, l1c⟩ := own_at3 ho2; have HO2 : Hid (OwnR (w2.setCell ⟨rb, 3, none⟩ (.slice (some ⟨g, 0, none⟩) (a.E.n + 1) cap)) rb { rc with rest := v1, e := (.slice (some ⟨g, 0, none⟩) (a.E.n + 1) cap) }) := Lib.hid (ho2.store 3 _); clear hG ho2))
    all_goals
      go_wp2_with (go_at_call 123; (with_reducible refine (limit_any _ _ HO2.out).mono ?_); rintro e w3 ⟨rfl, ho3, hg3, _⟩; have HO3 := Lib.hid ho3; have HG3 := Lib.hid hg3; obtain ⟨f5, z5, l5⟩ := own_at5 ho3; obtain ⟨f6, z6, l6⟩ := own_at6 ho3; clear ho3 hg3)
      go_end0
      have hB := Build.extern (al_build HT.out.bld (.cells #[str x, i64 n] 80)) ⟨x, n⟩ HGR.out hN
      obtain ⟨b1, b2, b3⟩ := head_end HT.out (HG0.out.trans (gr_undrew HG.out)) HH.out.high (by simp [Act.l]) HGR.out hB HG3.out
      exact Meth.ok (p2 := { p with externs := p.externs ++ [⟨x, n⟩] }) (b1.set (p := ⟨rb, 5, none⟩) (.inr rfl) _) (by unfold externD; rw [if_neg (by rw [HSB.out]; simp), HN0.out]; simp only; rw [HN.out]) (HT.out.finish (b2.set (p := ⟨rb, 5, none⟩) (.inr rfl) _) (rcf := { rc with rest := v1, e := (.slice (some ⟨g, 0, none⟩) (a.E.n + 1) cap), over := rc.over || decide ((8 : Int) < ((a.E.n + 1 : Nat) : Int)), place := 2 }) (HO3.out.store 5 _) (rb_set b3 HH.out.mid 5 _) HT.out.ssa HT.out.c HT.out.g rfl HT.out.u rfl) rfl rfl (by rw [HV.out, Bool.false_or, HH.out.bld.sh.e.2.2.1]) rfl
  · have hs : stB rc.place 519 = false := by simpa using hs
    rw [externD_no hs]
    have Q := Lib.hid (stands_no h.own hs)
    clear h hs
    go_enter Tryz.func76, Tryz.ntmps76
    go_wp2_with (go_at_call 43; (with_reducible refine (Q.out).mono ?_); rintro e w1 ⟨rfl, rfl⟩)
    exact ⟨rfl, Beside.refl _ _ _, rfl⟩

/-- function. -/
def funcD (p : Prog) (pl _ : Int) (ws : List Wd) : Out :=
  if stB pl 519 = false then none else match takeName ws with
  | none => none
  | some (x, l) => match takeKind l with
    | none => none
    | some (z, l) => some ({ p with funcs := p.funcs ++ [⟨x, z, [], [], []⟩] }, 8, 0, decide ((8 : Int) < ((p.funcs.length + 1 : Nat) : Int)), l)
theorem funcD_none {pl lg : Int} (h : takeName ws = none) : funcD p pl lg ws = none := by
  unfold funcD
  rw [h]
  split <;> rfl
theorem funcD_none2 {pl lg : Int} {x : Wd} (h : takeName ws = some (x, l)) (h2 : takeKind l = none) : funcD p pl lg ws = none := by
  unfold funcD
  rw [h]
  simp only
  rw [h2]
  split <;> rfl
theorem funcD_no {pl lg : Int} (h : stB pl 519 = false) : funcD p pl lg ws = none := by unfold funcD; rw [if_pos h]
set_option maxRecDepth 100000 in
set_option maxHeartbeats 4000000 in
theorem func_any (h : St w base rb lo hi rc a D p N ws) (hov : rc.over = false) (hN : N < 1073741824) :
    Calls Tryz.prog 77 #[ptr rb] w (Meth base rb lo hi (N + 1) rc.first w (funcD p rc.place rc.long ws)) := by
  by_cases hs : stB rc.place 519 = true
  · have HSB := Lib.hid hs
    have HS := Lib.hid fun w (hO : OwnR w rb rc) => stands_yes hO hs
    have Q := Lib.hid (name_take h.own h.wds h.low)
    have HH := Lib.hid h
    have HV := Lib.hid hov
    obtain ⟨i0, hi, hz0, hz1, hz2⟩ := info_parts fn_info
    have Hi := Lib.hid hi
    have Hz0 := Lib.hid hz0
    have Hz1 := Lib.hid hz1
    have Hz2 := Lib.hid hz2
    have hcn : a.U.n ≤ N := h.bld.few _ (by simp [Act.l])
    clear hs h hov hi hz0 hz1 hz2
    go_enter Tryz.func77, Tryz.ntmps77
    go_wp2_with (first
      | (go_at_call 43; (with_reducible refine (HS.out _ HH.out.own).mono ?_); rintro e w0 ⟨rfl, rfl⟩)
      | (go_at_call 122; (with_reducible refine (Q.out).mono ?_); intro e w0 hT; rcases take_cases hT with ⟨hn, rfl, hg⟩ | ⟨x, l0, v0, hn, rfl, ho, hw, hg⟩; exact ⟨rfl, st_bad HH hg (funcD_none hn)⟩; have HN0 := Lib.hid hn; have HG0 := Lib.hid hg; have hT0 := HH.out.took ho hw hg; have Q2 := Lib.hid (kind_take hT0.drew.own hT0.drew.wds hT0.low); have f1 := hT0.cells.2.2.2.2.1; have HD := Lib.hid hT0.drew; clear hT hn ho hw hg hT0))
    go_region_law (first
      | (go_simp; go_at_call 126; (with_reducible refine (Q2.out).mono ?_); intro e w1 hT; rcases take_cases hT with ⟨hn, rfl, hg⟩ | ⟨z, l, v1, hn, rfl, ho, hw, hg⟩; exact ⟨rfl, st_bad HH (HG0.out.trans (gr_undrew hg)) (funcD_none2 HN0.out hn)⟩; have HT := Lib.hid (HD.out.took ho hw hg); have HN := Lib.hid hn; have HG := Lib.hid hg; have f1b := HT.out.cells.2.2.2.2.1; have f1d := al_cell (x := .cells #[str x, str z, .slice none 0 0, .slice none 0 0, .slice none 0 0] 38) f1b; clear hT hn ho hw hg)
      | (refine step_grow (w0 := w1) rfl _ _ 25 (by rfl) base 38 i0 (.agg #[.string ⟨#[]⟩, .string ⟨#[]⟩, .slice none 0 0, .slice none 0 0, .slice none 0 0]) 5 104 Tryz.underlying25 Hi.out Hz0.out Hz1.out Hz2.out rfl (by decide) (by decide) a.U HH.out.bld.sh.u.1 HH.out.bld.sh.u.2.1 (by rfl) (HT.out.on (by simp [Act.l])) [str x, str z, .slice none 0 0, .slice none 0 0, .slice none 0 0] _ rfl (by rfl) rfl (ones_fn _ _) (by omega) HT.out.high ?_; intro g cap w2 hG; have HGR := Lib.hid hG; have ho2 := own_grown HT.out hG (by simp [Act.l]); obtain ⟨f1c, z1c, l1c⟩ := own_at4 ho2; have HO2 : Hid (OwnR (w2.setCell ⟨rb, 4, none⟩ (.slice (some ⟨g, 0, none⟩) (a.U.n + 1) cap)) rb { rc with rest := v1, u := (.slice (some ⟨g, 0, none⟩) (a.U.n + 1) cap) }) := Lib.hid (ho2.store 4 _); clear hG ho2))
    all_goals
      go_wp2_with (go_at_call 123; (with_reducible refine (limit_any _ _ HO2.out).mono ?_); rintro e w3 ⟨rfl, ho3, hg3, _⟩; have HO3 := Lib.hid ho3; have HG3 := Lib.hid hg3; obtain ⟨f5, z5, l5⟩ := own_at5 ho3; obtain ⟨f6, z6, l6⟩ := own_at6 ho3; clear ho3 hg3)
      go_end0
      have hB := Build.fn (al_build HT.out.bld (.cells #[str x, str z, .slice none 0 0, .slice none 0 0, .slice none 0 0] 38)) x z HGR.out hN
      obtain ⟨b1, b2, b3⟩ := head_end HT.out (HG0.out.trans (gr_undrew HG.out)) HH.out.high (by simp [Act.l]) HGR.out hB HG3.out
      exact Meth.ok (p2 := { p with funcs := p.funcs ++ [⟨x, z, [], [], []⟩] }) ((b1.set (p := ⟨rb, 6, none⟩) (.inr rfl) _).set (p := ⟨rb, 5, none⟩) (.inr rfl) _) (by unfold funcD; rw [if_neg (by rw [HSB.out]; simp), HN0.out]; simp only; rw [HN.out]) (HT.out.finish ((b2.set (p := ⟨rb, 6, none⟩) (.inr rfl) _).set (p := ⟨rb, 5, none⟩) (.inr rfl) _) (rcf := { rc with rest := v1, u := (.slice (some ⟨g, 0, none⟩) (a.U.n + 1) cap), over := rc.over || decide ((8 : Int) < ((a.U.n + 1 : Nat) : Int)), long := 0, place := 8 }) ((HO3.out.store 6 _).store 5 _) (rb_set (rb_set b3 HH.out.mid 6 _) HH.out.mid 5 _) HT.out.ssa HT.out.c HT.out.g HT.out.e rfl rfl) rfl rfl (by rw [HV.out, Bool.false_or, HH.out.bld.sh.u.2.2.1]) rfl
  · have hs : stB rc.place 519 = false := by simpa using hs
    rw [funcD_no hs]
    have Q := Lib.hid (stands_no h.own hs)
    clear h hs
    go_enter Tryz.func77, Tryz.ntmps77
    go_wp2_with (go_at_call 43; (with_reducible refine (Q.out).mono ?_); rintro e w1 ⟨rfl, rfl⟩)
    exact ⟨rfl, Beside.refl _ _ _, rfl⟩
end Go.Proofs.YtkmndgjabkjafaaGreatDoor.Rd5
