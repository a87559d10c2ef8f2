/-
  Package syntax: what stands where is kept by every line.
-/
import Derived.Test.YtdgmdpphimenjaaDoorLine4
namespace Go.Proofs.YtdgmdpphimenjaaDoor.Rd5
open Go.RowKit Api Hold Mem Syn WordM Tree

variable {l ws : List Wd} {p p2 : Prog} {pl lg pl2 lg2 : Int}
/-- What has been read stands as it should. -/
structure Good (p : Prog) (pl lg : Int) : Prop where
  spot : pl = 1 ∨ pl = 2 ∨ pl = 4 ∨ pl = 8 ∨ pl = 16 ∨ pl = 32 ∨ pl = 64 ∨ pl = 128 ∨ pl = 256 ∨ pl = 512
  cls : pl = 4 → p.classes ≠ []
  fn : 8 ≤ pl → p.funcs ≠ []
  blk : 32 ≤ pl → pl ≤ 256 → lastB p ≠ []
  ins : 128 ≤ pl → pl ≤ 256 → (theB p).code ≠ []
  long : 0 ≤ lg ∧ lg ≤ 1024
theorem Good.start : Good ⟨false, [], [], [], []⟩ 1 0 := ⟨by simp, by decide, by decide, by decide, by decide, by decide⟩
theorem Good.fits (h : Good p pl lg) : Fits p pl := by
  obtain ⟨h1, h2, h3, h4, h5, _⟩ := h
  rcases h1 with rfl | rfl | rfl | rfl | rfl | rfl | rfl | rfl | rfl | rfl
  all_goals
    refine ⟨fun h => ?_, fun h => ?_, fun h => ?_, fun h => ?_, fun h => ?_, fun h => ?_, fun h => ?_, fun h => ?_, fun h => ?_⟩
    all_goals first
      | (exact absurd h (by decide))
      | exact h2 rfl
      | exact h3 (by decide)
      | exact ⟨h3 (by decide), h4 (by decide) (by decide), h5 (by decide) (by decide)⟩
      | exact ⟨h3 (by decide), h4 (by decide) (by decide)⟩
theorem lastB_in {f : Api.Block → Api.Block} (h : p.funcs ≠ []) : lastB (inB p f) = Syn.last f (lastB p) := by
  unfold lastB inB
  rw [getD_last h]
theorem theB_in {f : Api.Block → Api.Block} (h : p.funcs ≠ []) (hb : lastB p ≠ []) : theB (inB p f) = f (theB p) := by
  unfold theB
  rw [lastB_in h, getD_last hb]
/-- What a line leaves, if it is not refused. -/
def GoodO (o : Out) : Prop := ∀ p2 pl2 lg2 l, o = some (p2, pl2, lg2, false, l) → Good p2 pl2 lg2
theorem Good.inner {f : Api.Block → Api.Block} (h : Good p pl lg) (hs : stB pl 480 = true) (hp : pl2 = 32 ∨ pl2 = 64 ∨ pl2 = 128 ∨ pl2 = 256 ∨ pl2 = 512) (hc : 128 ≤ pl2 → pl2 ≤ 256 → (f (theB p)).code ≠ []) (hl : 0 ≤ lg2 ∧ lg2 ≤ 1024) : Good (inB p f) pl2 lg2 := by
  obtain ⟨h1, h2⟩ := h.fits.fi hs
  refine ⟨by omega, by omega, fun _ => last_none h1, fun _ _ => ?_, fun k1 k2 => ?_, hl⟩
  · rw [lastB_in h1]; exact last_none h2
  · rw [theB_in h1 h2]; exact hc k1 k2
theorem st_32 (h : Good p pl lg) (hs : stB pl 32 = true) : pl = 32 ∧ stB pl 480 = true := by
  rcases h.spot with rfl | rfl | rfl | rfl | rfl | rfl | rfl | rfl | rfl | rfl <;> first | exact ⟨rfl, by decide⟩ | exact absurd hs (by decide)
theorem st_128 (h : Good p pl lg) (hs : stB pl 128 = true) : pl = 128 ∧ stB pl 480 = true := by
  rcases h.spot with rfl | rfl | rfl | rfl | rfl | rfl | rfl | rfl | rfl | rfl <;> first | exact ⟨rfl, by decide⟩ | exact absurd hs (by decide)
theorem st_384 (h : Good p pl lg) (hs : stB pl 384 = true) : 128 ≤ pl ∧ pl ≤ 256 ∧ stB pl 480 = true := by
  rcases h.spot with rfl | rfl | rfl | rfl | rfl | rfl | rfl | rfl | rfl | rfl <;> first | exact ⟨by decide, by decide, by decide⟩ | exact absurd hs (by decide)
theorem st_4 (h : Good p pl lg) (hs : stB pl 4 = true) : pl = 4 := by
  rcases h.spot with rfl | rfl | rfl | rfl | rfl | rfl | rfl | rfl | rfl | rfl <;> first | rfl | exact absurd hs (by decide)
theorem st_8 (h : Good p pl lg) (hs : stB pl 8 = true) : pl = 8 := by
  rcases h.spot with rfl | rfl | rfl | rfl | rfl | rfl | rfl | rfl | rfl | rfl <;> first | rfl | exact absurd hs (by decide)
theorem good_end {ov : Bool} {t : Api.Term} (h : Good p pl lg) : GoodO (endD p pl lg ov t ws) := by
  intro p2 pl2 lg2 l e
  unfold endD at e
  split at e
  · cases e
  · rename_i hs
    have hs : stB pl 480 = true := by simpa using hs
    simp only [Option.some.injEq, Prod.mk.injEq] at e
    obtain ⟨rfl, rfl, rfl, -, -⟩ := e
    exact h.inner hs (by simp) (by omega) h.long
theorem good_class (h : Good p pl lg) : GoodO (classD p pl lg ws) := by
  intro p2 pl2 lg2 l e
  unfold classD at e
  repeat' split at e
  all_goals first | (cases e; done) | skip
  simp only [Option.some.injEq, Prod.mk.injEq] at e
  obtain ⟨rfl, rfl, rfl, -, -⟩ := e
  exact ⟨by simp, fun _ => by simp, by omega, by omega, by omega, h.long⟩
theorem good_global (h : Good p pl lg) : GoodO (globalD p pl lg ws) := by
  intro p2 pl2 lg2 l e
  unfold globalD at e
  repeat' split at e
  all_goals first | (cases e; done) | skip
  simp only [Option.some.injEq, Prod.mk.injEq] at e
  obtain ⟨rfl, rfl, rfl, -, -⟩ := e
  exact ⟨by simp, by omega, by omega, by omega, by omega, h.long⟩
theorem good_extern (h : Good p pl lg) : GoodO (externD p pl lg ws) := by
  intro p2 pl2 lg2 l e
  unfold externD at e
  repeat' split at e
  all_goals first | (cases e; done) | skip
  simp only [Option.some.injEq, Prod.mk.injEq] at e
  obtain ⟨rfl, rfl, rfl, -, -⟩ := e
  exact ⟨by simp, by omega, by omega, by omega, by omega, h.long⟩
theorem good_func : GoodO (funcD p pl lg ws) := by
  intro p2 pl2 lg2 l e
  unfold funcD at e
  repeat' split at e
  all_goals first | (cases e; done) | skip
  simp only [Option.some.injEq, Prod.mk.injEq] at e
  obtain ⟨rfl, rfl, rfl, -, -⟩ := e
  exact ⟨by simp, by omega, fun _ => by simp, by omega, by omega, by decide⟩
theorem good_field (h : Good p pl lg) : GoodO (fieldD p pl lg ws) := by
  intro p2 pl2 lg2 l e
  unfold fieldD at e
  split at e
  · cases e
  · rename_i hs
    have hs : stB pl 4 = true := by simpa using hs
    have hp := st_4 h hs
    repeat' split at e
    all_goals first | (cases e; done) | skip
    simp only [Option.some.injEq, Prod.mk.injEq] at e
    obtain ⟨rfl, rfl, rfl, -, -⟩ := e
    exact ⟨h.spot, fun k => last_none (h.cls k), by omega, by omega, by omega, h.long⟩
theorem good_param (h : Good p pl lg) : GoodO (paramD p pl lg ws) := by
  intro p2 pl2 lg2 l e
  unfold paramD at e
  split at e
  · cases e
  · rename_i hs
    have hs : stB pl 8 = true := by simpa using hs
    have hp := st_8 h hs
    repeat' split at e
    all_goals first | (cases e; done) | skip
    simp only [Option.some.injEq, Prod.mk.injEq] at e
    obtain ⟨rfl, rfl, rfl, -, -⟩ := e
    exact ⟨h.spot, by omega, fun k => last_none (h.fn k), by omega, by omega, h.long⟩
theorem good_var (h : Good p pl lg) : GoodO (varD p pl lg ws) := by
  intro p2 pl2 lg2 l e
  unfold varD at e
  split at e
  · cases e
  · rename_i hs
    have hs : stB pl 24 = true := by simpa using hs
    repeat' split at e
    all_goals first | (cases e; done) | skip
    simp only [Option.some.injEq, Prod.mk.injEq] at e
    obtain ⟨rfl, rfl, rfl, -, -⟩ := e
    exact ⟨by simp, by omega, fun _ => last_none (h.fits.var hs), by omega, by omega, h.long⟩
theorem good_block (h : Good p pl lg) : GoodO (blockD p pl lg ws) := by
  intro p2 pl2 lg2 l e
  unfold blockD at e
  split at e
  · cases e
  · rename_i hs
    have hs : stB pl 536 = true := by simpa using hs
    repeat' split at e
    all_goals first | (cases e; done) | skip
    simp only [Option.some.injEq, Prod.mk.injEq] at e
    obtain ⟨rfl, rfl, rfl, -, -⟩ := e
    refine ⟨by simp, by omega, fun _ => last_none (h.fits.blk hs), fun _ _ => ?_, by omega, h.long⟩
    unfold lastB
    rw [getD_last (h.fits.blk hs)]
    simp
theorem good_jump {ov : Bool} (h : Good p pl lg) : GoodO (jumpD p pl lg ov ws) := by
  intro p2 pl2 lg2 l e
  unfold jumpD at e
  repeat' split at e
  all_goals first | (cases e; done) | exact good_end h _ _ _ _ e
theorem good_ret {ov : Bool} (h : Good p pl lg) : GoodO (retD p pl lg ov ws) := by
  intro p2 pl2 lg2 l e
  unfold retD at e
  repeat' split at e
  all_goals first | (cases e; done) | exact good_end h _ _ _ _ e
theorem good_trap {ov : Bool} (h : Good p pl lg) : GoodO (trapD p pl lg ov ws) := by
  intro p2 pl2 lg2 l e
  unfold trapD at e
  repeat' split at e
  all_goals first | (cases e; done) | exact good_end h _ _ _ _ e
theorem good_branch {ov : Bool} (h : Good p pl lg) : GoodO (branchD p pl lg ov ws) := by
  intro p2 pl2 lg2 l e
  unfold branchD at e
  repeat' split at e
  all_goals first | (cases e; done) | exact good_end h _ _ _ _ e
theorem good_obj {ov : Bool} (h : Good p pl lg) : GoodO (objD p pl lg ov ws) := by
  intro p2 pl2 lg2 l e
  unfold objD at e
  split at e
  · cases e
  · rename_i hs
    have hs : stB pl 384 = true := by simpa using hs
    obtain ⟨k1, k2, k3⟩ := st_384 h hs
    repeat' split at e
    all_goals first | (cases e; done) | skip
    simp only [Option.some.injEq, Prod.mk.injEq] at e
    obtain ⟨rfl, rfl, rfl, -, -⟩ := e
    exact h.inner k3 (by simp) (fun _ _ => last_none (h.ins k1 k2)) h.long
theorem good_frm {ov : Bool} (h : Good p pl lg) : GoodO (frmD p pl lg ov ws) := by
  intro p2 pl2 lg2 l e
  unfold frmD at e
  split at e
  · cases e
  · rename_i hs
    have hs : stB pl 128 = true := by simpa using hs
    obtain ⟨k1, k3⟩ := st_128 h hs
    repeat' split at e
    all_goals first | (cases e; done) | skip
    simp only [Option.some.injEq, Prod.mk.injEq] at e
    obtain ⟨rfl, rfl, rfl, -, -⟩ := e
    exact h.inner k3 (by omega) (fun _ _ => last_none (h.ins (by omega) (by omega))) h.long
theorem good_phi {ov : Bool} (h : Good p pl lg) : GoodO (phiD p pl lg ov ws) := by
  intro p2 pl2 lg2 l e
  unfold phiD at e
  split at e
  · cases e
  · rename_i hs
    have hs : stB pl 32 = true := by simpa using hs
    obtain ⟨k1, k3⟩ := st_32 h hs
    repeat' split at e
    all_goals first | (cases e; done) | skip
    simp only [Option.some.injEq, Prod.mk.injEq] at e
    obtain ⟨rfl, rfl, rfl, ho, -⟩ := e
    simp only [Bool.or_eq_false_iff, decide_eq_false_iff_not] at ho
    have := h.long
    exact h.inner k3 (by omega) (by omega) (by omega)
theorem good_ins {ov : Bool} {dst x : Wd} (h : Good p pl lg) : GoodO (insD p pl lg ov dst x ws) := by
  intro p2 pl2 lg2 l e
  unfold insD at e
  split at e
  · cases e
  · rename_i hs
    have hs : stB pl 480 = true := by simpa using hs
    repeat' split at e
    all_goals first | (cases e; done) | skip
    simp only [Option.some.injEq, Prod.mk.injEq] at e
    obtain ⟨rfl, rfl, rfl, ho, -⟩ := e
    simp only [Bool.or_eq_false_iff, decide_eq_false_iff_not] at ho
    have := h.long
    refine h.inner hs ?_ (fun _ _ => by simp) (by omega)
    unfold behindV
    split <;> simp
theorem good_ssa {ov : Bool} (h : Good p pl lg) : GoodO (ssaD p pl lg ov ws) := by
  intro p2 pl2 lg2 l e
  unfold ssaD at e
  split at e
  · cases e
  · simp only [Option.some.injEq, Prod.mk.injEq] at e
    obtain ⟨rfl, rfl, rfl, -, -⟩ := e
    exact ⟨by simp, by omega, by omega, by omega, by omega, h.long⟩
theorem good_set {ov : Bool} {x : Wd} (h : Good p pl lg) : GoodO (setD p pl lg ov x ws) := by
  intro p2 pl2 lg2 l e
  unfold setD at e
  repeat' split at e
  all_goals first | (cases e; done) | exact good_ins h _ _ _ _ e
theorem good_ite {c : Prop} [Decidable c] {x y : Out} (hx : GoodO x) (hy : GoodO y) : GoodO (if c then x else y) := by
  by_cases h : c
  · rw [if_pos h]; exact hx
  · rw [if_neg h]; exact hy
theorem good_disp {x : Wd} (h : Good p pl lg) : GoodO (dispD p pl lg x ws) := by
  unfold dispD
  exact good_ite (good_trap h) (good_ite (good_ret h) (good_ite (good_branch h) (good_ite (good_jump h) (good_ite (good_obj h) (good_ite (good_frm h) (good_ite (good_ins h) (good_ite (good_ins h) (good_ite (good_ins h) (good_ite (good_ins h) (good_ite (good_phi h) (good_ite (good_block h) (good_ite (good_var h) (good_ite (good_param h) (good_ite (good_func) (good_ite (good_extern h) (good_ite (good_global h) (good_ite (good_field h) (good_ite (good_class h) (good_ite (good_ssa h) (fun _ _ _ _ e => by cases e))))))))))))))))))))
theorem good_line {x : Wd} (h : Good p pl lg) (e : lineE (lineO p pl lg x l) = .ok (p2, pl2, lg2)) : Good p2 pl2 lg2 := by
  have hg : GoodO (lineO p pl lg x l) := by
    unfold lineO
    split
    · exact good_set h
    · exact good_disp h
  unfold lineE at e
  repeat' split at e
  all_goals first | (cases e; done) | skip
  rename_i p3 pl3 lg3 ov ws ho _ hov
  simp only [Except.ok.injEq, Prod.mk.injEq] at e
  obtain ⟨rfl, rfl, rfl⟩ := e
  have : ov = false := by simpa using hov
  subst this
  exact hg _ _ _ _ ho
end Go.Proofs.YtdgmdpphimenjaaDoor.Rd5
