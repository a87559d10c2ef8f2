/-
  Package syntax: a line, whatever its words.
  Package syntax: what stands where is kept by every line.
  Package syntax: what read defers: it recovers.
  Package syntax: the lines, one behind the other.
-/
import Derived.Test.YtkmndgjabkjafaaGreatDoorLine3
import Derived.Test.YtkmndgjabkjafaaGreatDoorRdrT
import Derived.Tactics2
import Derived.Defers
import Derived.Recover
import Derived.Laws.Pointers
namespace Go.Proofs.YtkmndgjabkjafaaGreatDoor.Rd5
open Go.RowKit Api Hold Mem Syn WordM Tree Go.Maps

variable {w w' w1 w2 : World} {lo hi rb base N : Nat} {rc : RC} {v : Value} {l ws : List Wd} {row : Option Nat} {a : Tree.Act} {D D2 : List Rec} {p : Prog} {L T : Rec}
theorem line_any {x : Wd} {lv : Value} {mb : Nat} {ws0 : List Wd} (h : St w base rb lo hi rc a D p N ws0) (hov : rc.over = false) (hN : N < 1073741824) (hlg : 0 ≤ rc.long ∧ rc.long ≤ 1000000) (hL : LaidS w) (hr : 1 < rb) (hF : Fits p rc.place)
    (hW : Ws lo hi w lv (x :: l)) (hlen : (x :: l).length ≤ 4194304) (hm : w.ownsMap Tryz.prog 9 fnElem mb 20 tabD) (hmb : mb ≠ rb) :
    Calls Tryz.prog 42 #[ptr rb, lv, .map (some mb)] w (LineP base rb lo hi (N + 1) w (lineE (lineO p rc.place rc.long x l))) := by
  obtain ⟨A, n, cap, b, off, rfl, hn, hc, hmx, ha, hw, hs⟩ := hW
  obtain ⟨rfl, hb1, hb2⟩ := ha (by rw [hn]; simp)
  by_cases h1 : cap = 1
  · cases l with
    | nil => exact line_one h hov hN hlg hL hr hF hn hc hmx h1 hb1 hb2 hw hs hlen hm hmb
    | cons y l => exfalso; simp at hn; omega
  · have h2 : 1 < cap := by simp at hn; omega
    cases l with
    | nil => exact line_nil h hov hN hlg hL hr hF hn hc hmx h2 hb1 hb2 hw hs hlen hm hmb
    | cons y l =>
      by_cases hy : y = [61]
      · exact line_eq h hov hN hlg hL hr hF hn hc hmx h2 hb1 hb2 hw hs hlen hm hmb hy
      · exact line_ne h hov hN hlg hL hr hF hn hc hmx h2 hb1 hb2 hw hs hlen hm hmb hy
/-- Lines, one behind the other: the state; or the line's number and the error. -/
def readE : Prog × Int × Int → List (Nat × List Wd) → Except (Nat × Int) (Prog × Int × Int)
  | s, [] => .ok s
  | s, (k, ws) :: l => match lineE (lineO s.1 s.2.1 s.2.2 (ws.headD []) ws.tail) with
    | .error e => .error (k, e)
    | .ok s' => readE s' l
/-- A text's lines: the program; or a line's number and the error. -/
def parseE (l : List (Nat × List Wd)) : Except (Nat × Int) Prog := match readE (⟨false, [], [], [], []⟩, 1, 0) l with
  | .error e => .error e
  | .ok (p, pl, _) => if stB pl 519 = true then .ok p else .error (0, 3)
theorem readE_snoc (s : Prog × Int × Int) (l : List (Nat × List Wd)) (x : Nat × List Wd) : readE s (l ++ [x]) = match readE s l with
    | .error e => .error e
    | .ok s' => readE s' [x] := by
  induction l generalizing s with
  | nil => rfl
  | cons y l ih =>
    obtain ⟨k, ws⟩ := y
    simp only [List.cons_append, readE]
    cases lineE (lineO s.1 s.2.1 s.2.2 (ws.headD []) ws.tail) with
    | error e => rfl
    | ok s' => exact ih s'
end Go.Proofs.YtkmndgjabkjafaaGreatDoor.Rd5

namespace Go.Proofs.YtkmndgjabkjafaaGreatDoor.Rd5
open Go.RowKit Api Hold Mem Syn WordM Tree

variable {l ws : List Wd} {p p2 : Prog} {pl lg pl2 lg2 : Int}
/-- What has been read stands as it should. -/
structure Good (p : Prog) (pl lg : Int) : Prop where
  spot : pl = 1 ∨ pl = 2 ∨ pl = 4 ∨ pl = 8 ∨ pl = 16 ∨ pl = 32 ∨ pl = 64 ∨ pl = 128 ∨ pl = 256 ∨ pl = 512
  cls : pl = 4 → p.classes ≠ []
  fn : 8 ≤ pl → p.funcs ≠ []
  blk : 32 ≤ pl → pl ≤ 256 → lastB p ≠ []
  ins : 128 ≤ pl → pl ≤ 256 → (theB p).code ≠ []
  long : 0 ≤ lg ∧ lg ≤ 1024
theorem Good.start : Good ⟨false, [], [], [], []⟩ 1 0 := ⟨by simp, by decide, by decide, by decide, by decide, by decide⟩
theorem Good.fits (h : Good p pl lg) : Fits p pl := by
  obtain ⟨h1, h2, h3, h4, h5, _⟩ := h
  rcases h1 with rfl | rfl | rfl | rfl | rfl | rfl | rfl | rfl | rfl | rfl
  all_goals
    refine ⟨fun h => ?_, fun h => ?_, fun h => ?_, fun h => ?_, fun h => ?_, fun h => ?_, fun h => ?_, fun h => ?_, fun h => ?_⟩
    all_goals first
      | (exact absurd h (by decide))
      | exact h2 rfl
      | exact h3 (by decide)
      | exact ⟨h3 (by decide), h4 (by decide) (by decide), h5 (by decide) (by decide)⟩
      | exact ⟨h3 (by decide), h4 (by decide) (by decide)⟩
theorem lastB_in {f : Api.Block → Api.Block} (h : p.funcs ≠ []) : lastB (inB p f) = Syn.last f (lastB p) := by
  unfold lastB inB
  rw [getD_last h]
theorem theB_in {f : Api.Block → Api.Block} (h : p.funcs ≠ []) (hb : lastB p ≠ []) : theB (inB p f) = f (theB p) := by
  unfold theB
  rw [lastB_in h, getD_last hb]
/-- What a line leaves, if it is not refused. -/
def GoodO (o : Out) : Prop := ∀ p2 pl2 lg2 l, o = some (p2, pl2, lg2, false, l) → Good p2 pl2 lg2
theorem Good.inner {f : Api.Block → Api.Block} (h : Good p pl lg) (hs : stB pl 480 = true) (hp : pl2 = 32 ∨ pl2 = 64 ∨ pl2 = 128 ∨ pl2 = 256 ∨ pl2 = 512) (hc : 128 ≤ pl2 → pl2 ≤ 256 → (f (theB p)).code ≠ []) (hl : 0 ≤ lg2 ∧ lg2 ≤ 1024) : Good (inB p f) pl2 lg2 := by
  obtain ⟨h1, h2⟩ := h.fits.fi hs
  refine ⟨by omega, by omega, fun _ => last_none h1, fun _ _ => ?_, fun k1 k2 => ?_, hl⟩
  · rw [lastB_in h1]; exact last_none h2
  · rw [theB_in h1 h2]; exact hc k1 k2
theorem st_32 (h : Good p pl lg) (hs : stB pl 32 = true) : pl = 32 ∧ stB pl 480 = true := by
  rcases h.spot with rfl | rfl | rfl | rfl | rfl | rfl | rfl | rfl | rfl | rfl <;> first | exact ⟨rfl, by decide⟩ | exact absurd hs (by decide)
theorem st_128 (h : Good p pl lg) (hs : stB pl 128 = true) : pl = 128 ∧ stB pl 480 = true := by
  rcases h.spot with rfl | rfl | rfl | rfl | rfl | rfl | rfl | rfl | rfl | rfl <;> first | exact ⟨rfl, by decide⟩ | exact absurd hs (by decide)
theorem st_384 (h : Good p pl lg) (hs : stB pl 384 = true) : 128 ≤ pl ∧ pl ≤ 256 ∧ stB pl 480 = true := by
  rcases h.spot with rfl | rfl | rfl | rfl | rfl | rfl | rfl | rfl | rfl | rfl <;> first | exact ⟨by decide, by decide, by decide⟩ | exact absurd hs (by decide)
theorem st_4 (h : Good p pl lg) (hs : stB pl 4 = true) : pl = 4 := by
  rcases h.spot with rfl | rfl | rfl | rfl | rfl | rfl | rfl | rfl | rfl | rfl <;> first | rfl | exact absurd hs (by decide)
theorem st_8 (h : Good p pl lg) (hs : stB pl 8 = true) : pl = 8 := by
  rcases h.spot with rfl | rfl | rfl | rfl | rfl | rfl | rfl | rfl | rfl | rfl <;> first | rfl | exact absurd hs (by decide)
theorem good_end {ov : Bool} {t : Api.Term} (h : Good p pl lg) : GoodO (endD p pl lg ov t ws) := by
  intro p2 pl2 lg2 l e
  unfold endD at e
  split at e
  · cases e
  · rename_i hs
    have hs : stB pl 480 = true := by simpa using hs
    simp only [Option.some.injEq, Prod.mk.injEq] at e
    obtain ⟨rfl, rfl, rfl, -, -⟩ := e
    exact h.inner hs (by simp) (by omega) h.long
theorem good_class (h : Good p pl lg) : GoodO (classD p pl lg ws) := by
  intro p2 pl2 lg2 l e
  unfold classD at e
  repeat' split at e
  all_goals first | (cases e; done) | skip
  simp only [Option.some.injEq, Prod.mk.injEq] at e
  obtain ⟨rfl, rfl, rfl, -, -⟩ := e
  exact ⟨by simp, fun _ => by simp, by omega, by omega, by omega, h.long⟩
theorem good_global (h : Good p pl lg) : GoodO (globalD p pl lg ws) := by
  intro p2 pl2 lg2 l e
  unfold globalD at e
  repeat' split at e
  all_goals first | (cases e; done) | skip
  simp only [Option.some.injEq, Prod.mk.injEq] at e
  obtain ⟨rfl, rfl, rfl, -, -⟩ := e
  exact ⟨by simp, by omega, by omega, by omega, by omega, h.long⟩
theorem good_extern (h : Good p pl lg) : GoodO (externD p pl lg ws) := by
  intro p2 pl2 lg2 l e
  unfold externD at e
  repeat' split at e
  all_goals first | (cases e; done) | skip
  simp only [Option.some.injEq, Prod.mk.injEq] at e
  obtain ⟨rfl, rfl, rfl, -, -⟩ := e
  exact ⟨by simp, by omega, by omega, by omega, by omega, h.long⟩
theorem good_func : GoodO (funcD p pl lg ws) := by
  intro p2 pl2 lg2 l e
  unfold funcD at e
  repeat' split at e
  all_goals first | (cases e; done) | skip
  simp only [Option.some.injEq, Prod.mk.injEq] at e
  obtain ⟨rfl, rfl, rfl, -, -⟩ := e
  exact ⟨by simp, by omega, fun _ => by simp, by omega, by omega, by decide⟩
theorem good_field (h : Good p pl lg) : GoodO (fieldD p pl lg ws) := by
  intro p2 pl2 lg2 l e
  unfold fieldD at e
  split at e
  · cases e
  · rename_i hs
    have hs : stB pl 4 = true := by simpa using hs
    have hp := st_4 h hs
    repeat' split at e
    all_goals first | (cases e; done) | skip
    simp only [Option.some.injEq, Prod.mk.injEq] at e
    obtain ⟨rfl, rfl, rfl, -, -⟩ := e
    exact ⟨h.spot, fun k => last_none (h.cls k), by omega, by omega, by omega, h.long⟩
theorem good_param (h : Good p pl lg) : GoodO (paramD p pl lg ws) := by
  intro p2 pl2 lg2 l e
  unfold paramD at e
  split at e
  · cases e
  · rename_i hs
    have hs : stB pl 8 = true := by simpa using hs
    have hp := st_8 h hs
    repeat' split at e
    all_goals first | (cases e; done) | skip
    simp only [Option.some.injEq, Prod.mk.injEq] at e
    obtain ⟨rfl, rfl, rfl, -, -⟩ := e
    exact ⟨h.spot, by omega, fun k => last_none (h.fn k), by omega, by omega, h.long⟩
theorem good_var (h : Good p pl lg) : GoodO (varD p pl lg ws) := by
  intro p2 pl2 lg2 l e
  unfold varD at e
  split at e
  · cases e
  · rename_i hs
    have hs : stB pl 24 = true := by simpa using hs
    repeat' split at e
    all_goals first | (cases e; done) | skip
    simp only [Option.some.injEq, Prod.mk.injEq] at e
    obtain ⟨rfl, rfl, rfl, -, -⟩ := e
    exact ⟨by simp, by omega, fun _ => last_none (h.fits.var hs), by omega, by omega, h.long⟩
theorem good_block (h : Good p pl lg) : GoodO (blockD p pl lg ws) := by
  intro p2 pl2 lg2 l e
  unfold blockD at e
  split at e
  · cases e
  · rename_i hs
    have hs : stB pl 536 = true := by simpa using hs
    repeat' split at e
    all_goals first | (cases e; done) | skip
    simp only [Option.some.injEq, Prod.mk.injEq] at e
    obtain ⟨rfl, rfl, rfl, -, -⟩ := e
    refine ⟨by simp, by omega, fun _ => last_none (h.fits.blk hs), fun _ _ => ?_, by omega, h.long⟩
    unfold lastB
    rw [getD_last (h.fits.blk hs)]
    simp
theorem good_jump {ov : Bool} (h : Good p pl lg) : GoodO (jumpD p pl lg ov ws) := by
  intro p2 pl2 lg2 l e
  unfold jumpD at e
  repeat' split at e
  all_goals first | (cases e; done) | exact good_end h _ _ _ _ e
theorem good_ret {ov : Bool} (h : Good p pl lg) : GoodO (retD p pl lg ov ws) := by
  intro p2 pl2 lg2 l e
  unfold retD at e
  repeat' split at e
  all_goals first | (cases e; done) | exact good_end h _ _ _ _ e
theorem good_trap {ov : Bool} (h : Good p pl lg) : GoodO (trapD p pl lg ov ws) := by
  intro p2 pl2 lg2 l e
  unfold trapD at e
  repeat' split at e
  all_goals first | (cases e; done) | exact good_end h _ _ _ _ e
theorem good_branch {ov : Bool} (h : Good p pl lg) : GoodO (branchD p pl lg ov ws) := by
  intro p2 pl2 lg2 l e
  unfold branchD at e
  repeat' split at e
  all_goals first | (cases e; done) | exact good_end h _ _ _ _ e
theorem good_obj {ov : Bool} (h : Good p pl lg) : GoodO (objD p pl lg ov ws) := by
  intro p2 pl2 lg2 l e
  unfold objD at e
  split at e
  · cases e
  · rename_i hs
    have hs : stB pl 384 = true := by simpa using hs
    obtain ⟨k1, k2, k3⟩ := st_384 h hs
    repeat' split at e
    all_goals first | (cases e; done) | skip
    simp only [Option.some.injEq, Prod.mk.injEq] at e
    obtain ⟨rfl, rfl, rfl, -, -⟩ := e
    exact h.inner k3 (by simp) (fun _ _ => last_none (h.ins k1 k2)) h.long
theorem good_frm {ov : Bool} (h : Good p pl lg) : GoodO (frmD p pl lg ov ws) := by
  intro p2 pl2 lg2 l e
  unfold frmD at e
  split at e
  · cases e
  · rename_i hs
    have hs : stB pl 128 = true := by simpa using hs
    obtain ⟨k1, k3⟩ := st_128 h hs
    repeat' split at e
    all_goals first | (cases e; done) | skip
    simp only [Option.some.injEq, Prod.mk.injEq] at e
    obtain ⟨rfl, rfl, rfl, -, -⟩ := e
    exact h.inner k3 (by omega) (fun _ _ => last_none (h.ins (by omega) (by omega))) h.long
theorem good_phi {ov : Bool} (h : Good p pl lg) : GoodO (phiD p pl lg ov ws) := by
  intro p2 pl2 lg2 l e
  unfold phiD at e
  split at e
  · cases e
  · rename_i hs
    have hs : stB pl 32 = true := by simpa using hs
    obtain ⟨k1, k3⟩ := st_32 h hs
    repeat' split at e
    all_goals first | (cases e; done) | skip
    simp only [Option.some.injEq, Prod.mk.injEq] at e
    obtain ⟨rfl, rfl, rfl, ho, -⟩ := e
    simp only [Bool.or_eq_false_iff, decide_eq_false_iff_not] at ho
    have := h.long
    exact h.inner k3 (by omega) (by omega) (by omega)
theorem good_ins {ov : Bool} {dst x : Wd} (h : Good p pl lg) : GoodO (insD p pl lg ov dst x ws) := by
  intro p2 pl2 lg2 l e
  unfold insD at e
  split at e
  · cases e
  · rename_i hs
    have hs : stB pl 480 = true := by simpa using hs
    repeat' split at e
    all_goals first | (cases e; done) | skip
    simp only [Option.some.injEq, Prod.mk.injEq] at e
    obtain ⟨rfl, rfl, rfl, ho, -⟩ := e
    simp only [Bool.or_eq_false_iff, decide_eq_false_iff_not] at ho
    have := h.long
    refine h.inner hs ?_ (fun _ _ => by simp) (by omega)
    unfold behindV
    split <;> simp
theorem good_ssa {ov : Bool} (h : Good p pl lg) : GoodO (ssaD p pl lg ov ws) := by
  intro p2 pl2 lg2 l e
  unfold ssaD at e
  split at e
  · cases e
  · simp only [Option.some.injEq, Prod.mk.injEq] at e
    obtain ⟨rfl, rfl, rfl, -, -⟩ := e
    exact ⟨by simp, by omega, by omega, by omega, by omega, h.long⟩
theorem good_set {ov : Bool} {x : Wd} (h : Good p pl lg) : GoodO (setD p pl lg ov x ws) := by
  intro p2 pl2 lg2 l e
  unfold setD at e
  repeat' split at e
  all_goals first | (cases e; done) | exact good_ins h _ _ _ _ e
theorem good_ite {c : Prop} [Decidable c] {x y : Out} (hx : GoodO x) (hy : GoodO y) : GoodO (if c then x else y) := by
  by_cases h : c
  · rw [if_pos h]; exact hx
  · rw [if_neg h]; exact hy
theorem good_disp {x : Wd} (h : Good p pl lg) : GoodO (dispD p pl lg x ws) := by
  unfold dispD
  exact good_ite (good_trap h) (good_ite (good_ret h) (good_ite (good_branch h) (good_ite (good_jump h) (good_ite (good_obj h) (good_ite (good_frm h) (good_ite (good_ins h) (good_ite (good_ins h) (good_ite (good_ins h) (good_ite (good_ins h) (good_ite (good_phi h) (good_ite (good_block h) (good_ite (good_var h) (good_ite (good_param h) (good_ite (good_func) (good_ite (good_extern h) (good_ite (good_global h) (good_ite (good_field h) (good_ite (good_class h) (good_ite (good_ssa h) (fun _ _ _ _ e => by cases e))))))))))))))))))))
theorem good_line {x : Wd} (h : Good p pl lg) (e : lineE (lineO p pl lg x l) = .ok (p2, pl2, lg2)) : Good p2 pl2 lg2 := by
  have hg : GoodO (lineO p pl lg x l) := by
    unfold lineO
    split
    · exact good_set h
    · exact good_disp h
  unfold lineE at e
  repeat' split at e
  all_goals first | (cases e; done) | skip
  rename_i p3 pl3 lg3 ov ws ho _ hov
  simp only [Except.ok.injEq, Prod.mk.injEq] at e
  obtain ⟨rfl, rfl, rfl⟩ := e
  have : ov = false := by simpa using hov
  subst this
  exact hg _ _ _ _ ho
end Go.Proofs.YtkmndgjabkjafaaGreatDoor.Rd5

namespace Go.Proofs.YtkmndgjabkjafaaGreatDoor.Rd5
open Go.RowKit Mem

theorem as_errno (v : Value) (w : World) : (Instr.typeAssert (.iface 28 v) 20 28 false).run Tryz.prog w = .ok v w := by kernel_rfl
theorem catch_panicking (p : Addr) (u : Value) (k : Int) (w : World) (hc : w.cell? p = some u) (hz : w.frozen? p = false) :
    CallsD Tryz.prog 40 #[.pointer (some p)] (.panicking ({ v := .iface 28 (.int .i64 k), recovered := false } :: [])) w fun e u' w' =>
      e = .returned (.tuple #[]) ∧ u' = .panicking ({ v := .iface 28 (.int .i64 k), recovered := true } :: []) ∧ w' = w.setCell p (.int .i64 k) := by
  refine callsD_of_wpS Tryz.func40 rfl fun c₀ cs hu => ?_
  apply wpS_seq
  apply wpS_region
  simp [wpOpsS, go_sem, recoverD, hu, Tryz.ntmps40, Exit.thenS]
  apply wpS_seq
  apply wpS_region
  simp [wpOpsS, go_sem, recoverD, Exit.thenS]
  refine wpS_cond (t := true) (by simp [Act.eval, Array.replicate]) ?_
  simp only [if_true]
  apply wpS_region
  simp [wpOpsS, go_sem, as_errno, hc, hz, bodyPostS, results, Tryz.results40]

theorem catch_idle (p : Addr) (w : World) :
    CallsD Tryz.prog 40 #[.pointer (some p)] .returning w fun e u' w' => e = .returned (.tuple #[]) ∧ u' = .returning ∧ w' = w := by
  refine callsD_of_wpS Tryz.func40 rfl fun c₀ cs hu => ?_
  apply wpS_seq
  apply wpS_region
  simp [wpOpsS, go_sem, recoverD, hu, Tryz.ntmps40, Exit.thenS]
  apply wpS_seq
  apply wpS_region
  simp [wpOpsS, go_sem, recoverD, hu, Exit.thenS]
  refine wpS_cond (t := false) (by simp [Act.eval, Array.replicate]) ?_
  simp only [Bool.false_eq_true, if_false]
  refine wpS_of_wp (wp_skip ?_)
  cases c₀
  simp_all [bodyPostS, results, Tryz.results40]
end Go.Proofs.YtkmndgjabkjafaaGreatDoor.Rd5

namespace Go.Proofs.YtkmndgjabkjafaaGreatDoor.Rd5
open Go.RowKit Api Hold Mem Syn WordM Tree Go.Maps

variable {w w' w1 w2 : World} {lo hi rb base N : Nat} {rc : RC} {v : Value} {l ws : List Wd} {row : Option Nat} {a : Tree.Act} {D D2 : List Rec} {p : Prog} {L T : Rec}
def act0 : Tree.Act := ⟨.empty 78 2, .empty 93 2, .empty 93 2, .empty 80 2, .empty 38 5, .empty 93 2, .empty 93 2, .empty 47 9, .empty 131 2, .empty 52 6, .empty 167 4, .empty 169 2⟩
def prog0 : Prog := ⟨false, [], [], [], []⟩
theorem build0 (w : World) (base : Nat) : Build w base act0 [] prog0 0 := by
  have h0 : Apart w base [] := ⟨fun _ h => absurd h (List.not_mem_nil), by simp⟩
  refine ⟨?_, Shape.start, fun r hr => ?_⟩
  · show Apart w base (act0.l ++ [])
    rw [List.append_nil]
    exact ((((((((((((h0.empty _ _).empty _ _).empty _ _).empty _ _).empty _ _).empty _ _).empty _ _).empty _ _).empty _ _).empty _ _).empty _ _).empty _ _)
  · simp only [act0, Tree.Act.l, List.mem_cons, List.not_mem_nil, or_false] at hr
    rcases hr with rfl | rfl | rfl | rfl | rfl | rfl | rfl | rfl | rfl | rfl | rfl | rfl <;> exact Nat.le_refl 0
/-- The reader ahead of the first line. -/
def rc0 : RC := ⟨.bool false, .slice none 0 0, .slice none 0 0, .slice none 0 0, .slice none 0 0, 1, 0, .string ⟨#[]⟩, .slice none 0 0, false⟩
/-- A row of lines: each has words. -/
def LinsR (lo hi : Nat) (w : World) (b off : Nat) (l : List (Nat × List Wd)) : Prop :=
  ∀ i x, l[i]? = some x → ∃ lv, lo ≤ b ∧ b < hi ∧ w.cell? ⟨b, off + i * 2, none⟩ = some (i64 (x.1 : Int)) ∧ w.cell? ⟨b, off + i * 2 + 1, none⟩ = some lv ∧ lv.oneCell' = true ∧ Ws lo hi w lv x.2 ∧ x.2 ≠ [] ∧ x.2.length ≤ 4194304
theorem LinsR.move {l : List (Nat × List Wd)} {b off : Nat} (h : LinsR lo hi w b off l) (hk : ∀ k, lo ≤ k → k < hi → w'.heap[k]? = w.heap[k]?) : LinsR lo hi w' b off l := by
  intro i x hx
  obtain ⟨lv, h1, h2, h3, h4, h5, h6, h7, h8⟩ := h i x hx
  exact ⟨lv, h1, h2, (World.cell?_of_block (w := w) (hk b h1 h2)).trans h3, (World.cell?_of_block (w := w) (hk b h1 h2)).trans h4, h5, h6.move hk, h7, h8⟩
/-- What reading the lines leaves. -/
def ReadP (base rb lo hi : Nat) (w : World) (l : List (Nat × List Wd)) (e : Ending) (w' : World) : Prop :=
  Beside base rb w w' ∧ match parseE l with
  | .error x => e = .returned (.tuple #[i64 (x.1 : Int), i64 x.2])
  | .ok p => e = .returned (.tuple #[i64 0, i64 0]) ∧ ∃ rc a D N B, w.heap.size ≤ B ∧ St w' B rb lo hi rc a D p N []
theorem readE_err {s : Prog × Int × Int} {l1 l2 : List (Nat × List Wd)} {x : Nat × Int} (h : readE s l1 = .error x) : readE s (l1 ++ l2) = .error x := by
  induction l1 generalizing s with
  | nil => cases h
  | cons y l ih =>
    obtain ⟨k, ws⟩ := y
    simp only [List.cons_append, readE] at h ⊢
    cases hE : lineE (lineO s.1 s.2.1 s.2.2 (ws.headD []) ws.tail) with
    | error e => rw [hE] at h; exact h
    | ok s' => rw [hE] at h; exact ih h
theorem st_far {q : Addr} (h : St w base rb lo hi rc a D p N ws) (hq : q.block < base) (h2 : rb < q.block) (u : Value) : St (w.setCell q u) base rb lo hi rc a D p N ws :=
  ⟨(Below.heap_setCell w q u rb (by omega)).trans h.own, h.bld.same fun k hk _ => Below.heap_setCell w q u k (by omega), h.ssa, h.c, h.g, h.e, h.u, h.wds.move fun k _ hk => Below.heap_setCell w q u k (by have := h.low; omega), h.low, h.mid, by have := h.high; simpa [World.setCell] using this⟩
theorem beside_down {B : Nat} (h : Below B w w1) (h2 : Beside base rb w1 w2) (hB : B ≤ base) : Beside B rb w w2 :=
  ⟨h2.os.trans h.os, h2.tape.trans h.tape, h2.output.trans h.output, Nat.le_trans h.size h2.size, fun k hk hn => (h2.block k (by omega) hn).trans (h.block k hk)⟩
set_option maxRecDepth 100000 in
set_option maxHeartbeats 4000000 in
theorem read_any {A : Option Addr} {cap b off : Nat} {l : List (Nat × List Wd)} (hO : OwnR w rb rc0) (hA : 0 < l.length → A = some ⟨b, off, none⟩) (hl : LinsR lo hi w b off l) (hhi : hi ≤ rb) (hL : LaidS w) (hr : 1 < rb) (hsm : l.length ≤ 4194305) :
    Calls Tryz.prog 17 #[ptr rb, .slice A l.length cap] w (ReadP w.heap.size rb lo hi w l) := by
  have hmf : ∀ (fn : Fn) (first cap : Array Value) (w : World), (Instr.makeFunc fn first cap).run Tryz.prog w = .ok (.func fn first cap) w := fun _ _ _ _ => rfl
  have hlt := hO.lt
  have HO := Lib.hid hO
  have HLN := Lib.hid hl
  have HL := Lib.hid hL
  have HA := Lib.hid hA
  clear hO hl hL hA
  have Q := Lib.hid (readers_any (w.alloc (.cells #[.int .i64 0] 28)))
  go_enter_defers Tryz.func17, Tryz.ntmps17
  go_wp2_with (go_at_call 41; (with_reducible refine (Q.out).mono ?_); rintro e w1 ⟨rfl, hm, hb, hsz⟩; have HM := Lib.hid hm; have HB := Lib.hid hb; have HSZ := Lib.hid hsz; clear hm hb hsz)
  obtain ⟨b1, hb1⟩ : ∃ b1, b1 = w.heap.size := ⟨_, rfl⟩
  have ea : (w.alloc (.cells #[.int .i64 0] 28)).heap.size = w.heap.size + 1 := by simp
  have HBE : Hid (Below w.heap.size w w1) := Lib.hid (((Below.refl _ _).alloc (Nat.le_refl _) _).trans ((HB.out).mono (by omega)))
  have hsz1 : w.heap.size + 1 < w1.heap.size := by have := HSZ.out; omega
  have HM1 : Hid (w1.ownsMap Tryz.prog 9 fnElem (w.heap.size + 1) 20 tabD) := Lib.hid (by have := HM.out; rw [ea] at this; exact this)
  have HEC : Hid (w1.cell? ⟨w.heap.size, 0, none⟩ = some (.int .i64 0) ∧ w1.frozen? ⟨w.heap.size, 0, none⟩ = false) := Lib.hid (by
    have hb := HB.out
    rw [ea] at hb
    have o := (Own.made w 28 [.int .i64 0]).below hb (by omega)
    exact ⟨o.cell 0, o.thaw 0⟩)
  have HL1 : Hid (LaidS w1) := Lib.hid ((HL.out).below HBE.out (Nat.le_refl _))
  have HLN1 : Hid (LinsR lo hi w1 b off l) := Lib.hid ((HLN.out).move fun k _ hk => (HBE.out).block k (by omega))
  have HS1 : Hid (St w1 w1.heap.size rb lo hi rc0 act0 [] prog0 0 []) := Lib.hid ⟨((HBE.out).block rb hlt).trans HO.out, build0 _ _, rfl, rfl, rfl, rfl, rfl, ⟨none, 0, 0, 0, 0, rfl, rfl, by omega, by omega, fun h => absurd h (by omega), fun i z hz => by simp at hz, fun z hz => by simp at hz⟩, hhi, by omega, Nat.le_refl _⟩
  clear HM HB HSZ Q HL HLN HO ea hb1
  go_loopw [13] (fun i wr => ∃ (j : Nat) (rc : RC) (a : Tree.Act) (D : List Rec) (p : Prog), i = .int .i64 (j : Int) ∧ j ≤ l.length ∧ Hid (readE (prog0, 1, 0) (l.take j) = .ok (p, rc.place, rc.long)) ∧ Hid (Good p rc.place rc.long) ∧ Hid (St wr w1.heap.size rb lo hi rc a D p j []) ∧ Hid (rc.over = false) ∧ Hid (Beside w1.heap.size rb w1 wr)) (fun i _ => l.length - (intOf i).toNat)
  case atStart => exact ⟨0, rc0, act0, [], prog0, rfl, Nat.zero_le _, Lib.hid rfl, Lib.hid Good.start, HS1, Lib.hid rfl, Lib.hid (Beside.refl _ _ _)⟩
  case round =>
    obtain ⟨j, rc, a, D, p, rfl, hj, HR, HG, HS, HOV, HBS⟩ := hrel
    have hmb : w1.heap.size ≤ wr.heap.size := (HBS.out).size
    have hrbm : rb < w1.heap.size := (HS.out).mid
    have hec : wr.cell? ⟨w.heap.size, 0, none⟩ = some (.int .i64 0) := (World.cell?_of_block (w := w1) (a := ⟨w.heap.size, 0, none⟩) ((HBS.out).block _ (show w.heap.size < w1.heap.size by omega) (show w.heap.size ≠ rb by omega))).trans HEC.out.1
    have hez : wr.frozen? ⟨w.heap.size, 0, none⟩ = false := (World.frozen?_of_block (w := w1) (a := ⟨w.heap.size, 0, none⟩) ((HBS.out).block _ (show w.heap.size < w1.heap.size by omega) (show w.heap.size ≠ rb by omega))).trans HEC.out.2
    have HEW := Lib.hid (And.intro hec hez)
    have HLR : Hid (LinsR lo hi wr b off l) := Lib.hid ((HLN1.out).move fun k _ hk => (HBS.out).block k (by omega) (by omega))
    have HMR : Hid (wr.ownsMap Tryz.prog 9 fnElem (w.heap.size + 1) 20 tabD) := Lib.hid (by
      obtain ⟨es, ck, h1, h2⟩ := HM1.out
      exact ⟨es, ck, ((HBS.out).block _ (by omega) (by omega)).trans h1, h2⟩)
    have HLDR : Hid (LaidS wr) := Lib.hid ((HL1.out).of_block ((HBS.out).block _ (by omega) (by omega)))
    have HBW : Hid (Beside w.heap.size rb w wr) := Lib.hid (beside_down HBE.out HBS.out (by omega))
    by_cases hjl : j < l.length
    · obtain ⟨⟨k, ws⟩, hx⟩ : ∃ x, l[j]? = some x := ⟨l[j], List.getElem?_eq_getElem hjl⟩
      obtain ⟨lv, h1, h2, c1, c2, o1, hW, hne, hlen⟩ := HLR.out j _ hx
      simp only at c1 c2 hW hne hlen
      obtain ⟨y, ls, rfl⟩ := List.exists_cons_of_ne_nil hne
      obtain rfl := HA.out (by omega)
      obtain ⟨A2, n2, cap2, rfl⟩ : ∃ A2 n2 cap2, lv = .slice A2 n2 cap2 := by obtain ⟨A, n, cap, _, _, e, _⟩ := hW; exact ⟨A, n, cap, e⟩
      have hS2 := (HS.out).alloc (.cells #[i64 (k : Int), (.slice A2 n2 cap2)] 102)
      have hB2 : Beside w1.heap.size rb w1 (wr.alloc (.cells #[i64 (k : Int), (.slice A2 n2 cap2)] 102)) := (HBS.out).grow (World.grownBy_alloc wr _ none) (Nat.le_refl _) (fun _ h => by cases h)
      have QL := line_any (x := y) (l := ls) (lv := .slice A2 n2 cap2) (mb := w.heap.size + 1) hS2 HOV.out (by omega) ⟨(HG.out).long.1, by have := (HG.out).long.2; omega⟩ ((HL1.out).of_block (hB2.block _ (by omega) (by omega))) hr (HG.out).fits (hW.move fun q _ hq => heap_alloc_old wr _ (by omega)) hlen ((HMR.out).alloc _) (by omega)
      have hstep : readE (prog0, 1, 0) (l.take (j + 1)) = readE (p, rc.place, rc.long) [(k, y :: ls)] := by
        rw [List.take_add_one, hx]
        show readE _ (l.take j ++ [(k, y :: ls)]) = _
        rw [readE_snoc, HR.out]
      have hB2H := Lib.hid hB2
      cases hE : lineE (lineO p rc.place rc.long y ls) with
      | error er =>
        rw [hE] at QL
        have QLH := Lib.hid QL
        have HPE : Hid (parseE l = .error (k, er)) := Lib.hid (by
          have e1 : readE (prog0, 1, 0) (l.take (j + 1)) = .error (k, er) := by rw [hstep]; simp only [readE, List.headD_cons, List.tail_cons]; rw [hE]
          have e2 := readE_err (l2 := l.drop (j + 1)) e1
          rw [List.take_append_drop] at e2
          unfold parseE
          rw [show (⟨false, [], [], [], []⟩ : Prog) = prog0 from rfl, e2])
        clear QL hE hstep hS2 hB2 hW hne hlen hx
        go_wp2_with (go_at_call 42; (with_reducible refine (QLH.out).mono ?_); rintro e w4 ⟨hB, rfl⟩; have HB4 := Lib.hid (hB2H.out.trans hB); clear hB)
        have hec4 : w4.cell? ⟨w.heap.size, 0, none⟩ = some (.int .i64 0) := (World.cell?_of_block (w := w1) (a := ⟨w.heap.size, 0, none⟩) ((HB4.out).block _ (show w.heap.size < w1.heap.size by omega) (show w.heap.size ≠ rb by omega))).trans HEC.out.1
        have hez4 : w4.frozen? ⟨w.heap.size, 0, none⟩ = false := (World.frozen?_of_block (w := w1) (a := ⟨w.heap.size, 0, none⟩) ((HB4.out).block _ (show w.heap.size < w1.heap.size by omega) (show w.heap.size ≠ rb by omega))).trans HEC.out.2
        refine leaves_cons (f := 40) (args := #[.pointer (some ⟨w.heap.size, 0, none⟩)]) (by simp) (by simp [go_sem]) ?_
        refine (catch_panicking ⟨w.heap.size, 0, none⟩ (.int .i64 0) er _ hec4 hez4).mono ?_
        rintro e u' w'' ⟨rfl, rfl, rfl⟩
        simp [Leaves, settle, results, Tryz.results17, go_sem, hec4]
        refine ⟨(beside_down HBE.out HB4.out (by omega)).set (p := ⟨w.heap.size, 0, none⟩) (.inl (Nat.le_refl _)) _, ?_⟩
        rw [HPE.out]
      | ok s2 =>
        obtain ⟨p2, pl2, lg2⟩ := s2
        rw [hE] at QL
        have QLH := Lib.hid QL
        have HG2 := Lib.hid (good_line HG.out hE)
        have HR2 : Hid (readE (prog0, 1, 0) (l.take (j + 1)) = .ok (p2, pl2, lg2)) := Lib.hid (by rw [hstep]; simp only [readE, List.headD_cons, List.tail_cons]; rw [hE])
        clear QL hE hstep hS2 hB2 hW hne hlen hx
        go_wp2_with (go_at_call 42; (with_reducible refine (QLH.out).mono ?_); rintro e w4 ⟨hB, rfl, rc2, a2, D2, hS4, rfl, rfl, h4⟩; have HB4 := Lib.hid (hB2H.out.trans hB); have HS4 := Lib.hid hS4; have H4 := Lib.hid h4; clear hB hS4 h4)
        go_roundw
        case rel => exact ⟨j + 1, rc2, a2, D2, p2, by go_num, by omega, HR2, HG2, HS4, H4, HB4⟩
        case measure => simp [intOf]; omega
    · obtain rfl : j = l.length := by omega
      have HF : Hid (readE (prog0, 1, 0) l = .ok (p, rc.place, rc.long)) := Lib.hid (by have := HR.out; rwa [List.take_length] at this)
      rcases hst : stB rc.place 519 with _ | _
      · have QS := Lib.hid (stands_no (HS.out).own hst)
        have HPE : Hid (parseE l = .error (0, 3)) := Lib.hid (by unfold parseE; rw [show (⟨false, [], [], [], []⟩ : Prog) = prog0 from rfl, HF.out]; simp only; rw [hst]; rfl)
        clear hst
        go_wp2_with (go_at_call 43; (with_reducible refine (QS.out).mono ?_); rintro e w4 ⟨rfl, rfl⟩)
        refine leaves_cons (f := 40) (args := #[.pointer (some ⟨w.heap.size, 0, none⟩)]) (by simp) (by simp [go_sem]) ?_
        refine (catch_panicking ⟨w.heap.size, 0, none⟩ (.int .i64 0) 3 _ HEW.out.1 HEW.out.2).mono ?_
        rintro e u' w'' ⟨rfl, rfl, rfl⟩
        simp [Leaves, settle, results, Tryz.results17, go_sem, hec]
        refine ⟨HBW.out.set (p := ⟨w.heap.size, 0, none⟩) (.inl (Nat.le_refl _)) _, ?_⟩
        rw [HPE.out]
        rfl
      · have QS := Lib.hid (stands_yes (HS.out).own hst)
        have HPE : Hid (parseE l = .ok p) := Lib.hid (by unfold parseE; rw [show (⟨false, [], [], [], []⟩ : Prog) = prog0 from rfl, HF.out]; simp only; rw [hst]; rfl)
        clear hst
        go_wp2_with (go_at_call 43; (with_reducible refine (QS.out).mono ?_); rintro e w4 ⟨rfl, rfl⟩)
        refine leaves_cons (f := 40) (args := #[.pointer (some ⟨w.heap.size, 0, none⟩)]) (by simp) (by simp [go_sem]) ?_
        refine (catch_idle ⟨w.heap.size, 0, none⟩ _).mono ?_
        rintro e u' w'' ⟨rfl, rfl, rfl⟩
        simp [Leaves, settle, results, Tryz.results17, go_sem, hec]
        refine ⟨HBW.out.set (p := ⟨w.heap.size, 0, none⟩) (.inl (Nat.le_refl _)) _, ?_⟩
        rw [HPE.out]
        exact ⟨rfl, rc, a, D, _, _, by omega, st_far (q := ⟨w.heap.size, 0, none⟩) HS.out (show w.heap.size < w1.heap.size by omega) hlt _⟩
end Go.Proofs.YtkmndgjabkjafaaGreatDoor.Rd5
