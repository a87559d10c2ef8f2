/-
  Package syntax: ssa, act, set.
-/
import Derived.Test.YtkfpcaganhmkcaaDoorInstr
namespace Go.Proofs.YtkfpcaganhmkcaaDoor.Rd5
open Go.RowKit Api Hold Mem Syn WordM Tree

variable {w w' w1 w2 : World} {lo hi rb base N : Nat} {rc : RC} {v : Value} {l ws : List Wd} {row : Option Nat} {a : Tree.Act} {D D2 : List Rec} {p : Prog} {L T : Rec}
def ssaD (p : Prog) (pl lg : Int) (ov : Bool) (ws : List Wd) : Out := if stB pl 1 = false then none else some ({ p with ssa := true }, 2, lg, ov, ws)
theorem ssaD_no {pl lg : Int} {ov : Bool} (h : stB pl 1 = false) : ssaD p pl lg ov ws = none := by unfold ssaD; rw [if_pos h]
set_option maxHeartbeats 2000000 in
theorem ssa_any (h : St w base rb lo hi rc a D p N ws) :
    Calls Tryd.prog 80 #[ptr rb] w (Meth base rb lo hi (N + 1) rc.first w (ssaD p rc.place rc.long rc.over ws)) := by
  by_cases hs : stB rc.place 1 = true
  · have e : ssaD p rc.place rc.long rc.over ws = some ({ p with ssa := true }, 2, rc.long, rc.over, ws) := by unfold ssaD; rw [if_neg (by rw [hs]; simp)]
    rw [e]
    have Q := Lib.hid (stands_yes h.own hs)
    have HH := Lib.hid h
    obtain ⟨f0, z0, l0⟩ := own_at h.own 0
    obtain ⟨f5, z5, l5⟩ := own_at5 h.own
    simp only [RC.l, List.getElem?_cons_zero] at f0
    clear h hs e
    go_enter Tryd.func80, Tryd.ntmps80
    go_wp2_with (go_at_call 59; (with_reducible refine (Q.out).mono ?_); rintro e w1 ⟨rfl, rfl⟩)
    go_end0
    have hO : OwnR ((w.setCell ⟨rb, 0, none⟩ (.bool true)).setCell ⟨rb, 5, none⟩ (i64 2)) rb { rc with ssa := .bool true, place := 2 } := (HH.out.own.store 0 (.bool true)).store 5 (i64 2)
    have hB : Beside base rb w ((w.setCell ⟨rb, 0, none⟩ (.bool true)).setCell ⟨rb, 5, none⟩ (i64 2)) := ((Beside.refl base rb w).set (p := ⟨rb, 0, none⟩) (.inr rfl) _).set (p := ⟨rb, 5, none⟩) (.inr rfl) _
    exact Meth.ok hB rfl (HH.out.finish hB hO (((rb_set (rb_set HH.out.bld HH.out.mid 0 _) HH.out.mid 5 _).ssa true).more (Nat.le_succ N)) rfl HH.out.c HH.out.g HH.out.e HH.out.u rfl) rfl rfl rfl rfl
  · have hs : stB rc.place 1 = false := by simpa using hs
    rw [ssaD_no hs]
    have Q := Lib.hid (stands_no h.own hs)
    clear h hs
    go_enter Tryd.func80, Tryd.ntmps80
    go_wp2_with (go_at_call 59; (with_reducible refine (Q.out).mono ?_); rintro e w1 ⟨rfl, rfl⟩)
    exact ⟨rfl, Beside.refl _ _ _, rfl⟩
set_option maxHeartbeats 2000000 in
theorem act_any (x : Wd) (h : St w base rb lo hi rc a D p N ws) (hN : N < 1073741824) (hws : ws.length ≤ 4194304) (hlg : 0 ≤ rc.long ∧ rc.long ≤ 1000000) (hL : LaidS w) (hF : FitI p rc.place) (hf : rc.first = str x) :
    Calls Tryd.prog 90 #[ptr rb] w (Meth base rb lo hi (N + 1) rc.first w (insD p rc.place rc.long rc.over [] x ws)) := by
  have Q := Lib.hid (instr_any [] x h hN hws hlg hL hF)
  have f7 := h.cells.2.2.2.2.2.2.2.1
  rw [hf] at f7
  clear h hws hlg hL hF hf
  go_enter Tryd.func90, Tryd.ntmps90
  go_wp2_with (go_at_call 127; (with_reducible refine (Q.out).mono ?_); intro e w2 hM; have HM := Lib.hid hM; rcases meth_ends hM with rfl | rfl; exact ⟨rfl, HM.out⟩; clear hM)
  go_end0
  exact HM.out
def setD (p : Prog) (pl lg : Int) (ov : Bool) (x : Wd) (ws : List Wd) : Out :=
  if nameV x = false then none else match takeWord ws with
  | none => none
  | some (_, l) => match takeWord l with
    | none => none
    | some (y, l) => insD p pl lg ov x y l
theorem setD_no {pl lg : Int} {ov : Bool} {x : Wd} (h : nameV x = false) : setD p pl lg ov x ws = none := by unfold setD; rw [if_pos h]
theorem next_take (hO : OwnR w rb rc) (hW : Ws lo hi w rc.rest ws) (hh : hi ≤ rb) : Calls Tryd.prog 133 #[ptr rb] w (TakeR str (takeWord ws) lo hi rb rc w) := by
  cases ws with
  | nil => exact (next_none hO hW).mono fun e w' h => ⟨h.1, by obtain ⟨_, rfl⟩ := h; exact gr_refl _ _⟩
  | cons x l => exact next_some hO hW hh
theorem takeWord_less {y : Wd} (h : takeWord ws = some (y, l)) : l.length + 1 = ws.length := by
  cases ws with
  | nil => cases h
  | cons x m => simp only [takeWord] at h; simp at h; simp [h.2]
theorem setD_1 {pl lg : Int} {ov : Bool} {x : Wd} (h : takeWord ws = none) : setD p pl lg ov x ws = none := by
  unfold setD
  rw [h]
  split <;> rfl
theorem setD_2 {pl lg : Int} {ov : Bool} {x y : Wd} (h : takeWord ws = some (y, l)) (h2 : takeWord l = none) : setD p pl lg ov x ws = none := by
  unfold setD
  rw [h]
  simp only
  rw [h2]
  split <;> rfl
theorem setD_3 {pl lg : Int} {ov : Bool} {x y z : Wd} {l2 : List Wd} (h0 : nameV x = true) (h : takeWord ws = some (y, l)) (h2 : takeWord l = some (z, l2)) : setD p pl lg ov x ws = insD p pl lg ov x z l2 := by
  unfold setD
  rw [if_neg (by rw [h0]; simp), h]
  simp only
  rw [h2]
theorem laid_grown {rb : Nat} (h : LaidS w) (hg : w.grownBy w' (some rb)) (hr : 0 < rb) : LaidS w' := h.of_block (hg.block _ h.lt (by intro e; injection e with e; omega))
set_option maxRecDepth 100000 in
set_option maxHeartbeats 4000000 in
theorem set_any (x : Wd) (h : St w base rb lo hi rc a D p N ws) (hN : N < 1073741824) (hws : ws.length ≤ 4194304) (hlg : 0 ≤ rc.long ∧ rc.long ≤ 1000000) (hL : LaidS w) (hr : 0 < rb) (hF : FitI p rc.place) (hf : rc.first = str x) :
    Calls Tryd.prog 97 #[ptr rb] w (Meth base rb lo hi (N + 1) rc.first w (setD p rc.place rc.long rc.over x ws)) := by
  have f7 := h.cells.2.2.2.2.2.2.2.1
  rw [hf] at f7
  rcases Bool.eq_false_or_eq_true (nameV x) with hn | hn
  · have QN := Lib.hid (wname_at x true hn)
    have Q := Lib.hid (next_take h.own h.wds h.low)
    have HH := Lib.hid h
    have HL := Lib.hid hL
    have HF := Lib.hid hF
    have HLG := Lib.hid hlg
    have HWS := Lib.hid hws
    have HNX := Lib.hid hn
    have HFI := Lib.hid hf
    have HR := Lib.hid hr
    clear h hL hF hn hlg hws hf hr
    go_enter Tryd.func97, Tryd.ntmps97
    go_wp2_with (first
      | (go_at_call 67; (with_reducible refine (QN.out _).mono ?_); rintro e w2 ⟨rfl, rfl⟩)
      | (go_at_call 133; (with_reducible refine (Q.out).mono ?_); intro e w1 hT; rcases take_cases hT with ⟨hn, rfl, hg⟩ | ⟨q, l1, v1, hn, rfl, ho, hw, hg⟩; exact ⟨rfl, st_bad HH hg (setD_1 hn)⟩; have hS1 := HH.out.took ho hw hg; have HS1 := Lib.hid hS1; have g7 := hS1.cells.2.2.2.2.2.2.2.1; simp only at g7; rw [HFI.out] at g7; have HN1 := Lib.hid hn; have HB1 := Lib.hid (Beside.of_grown hg HH.out.high); have HL1 := Lib.hid (laid_grown HL.out hg HR.out); have HW1 := Lib.hid (show l1.length ≤ 4194304 by have := takeWord_less hn; have := HWS.out; omega); have Q2 := Lib.hid (next_take hS1.drew.own hS1.drew.wds hS1.low); clear hT hn ho hw hg hS1 Q))
    go_region_law (first
      | (go_simp; go_at_call 133; (with_reducible refine (Q2.out).mono ?_); intro e w2 hT; rcases take_cases hT with ⟨hn, rfl, hg⟩ | ⟨z, l2, v2, hn, rfl, ho, hw, hg⟩; exact ⟨rfl, Meth.bad (HB1.out.trans (Beside.of_grown (gr_undrew hg) HS1.out.high)) (setD_2 HN1.out hn)⟩; have hS2 := HS1.out.drew.took ho hw hg; have k7 := hS2.cells.2.2.2.2.2.2.2.1; simp only at k7; rw [HFI.out] at k7; have HB2 := Lib.hid (HB1.out.trans (Beside.of_grown (gr_undrew hg) HS1.out.high)); have HN2 := Lib.hid hn; have QI := Lib.hid (instr_any x z hS2 hN (by have := takeWord_less hn; have := HW1.out; omega) HLG.out (laid_grown (w := w1.drew) HL1.out hg HR.out) HF.out); clear hT hn ho hw hg hS2)
      | (go_simp; go_at_call 127; (with_reducible refine (QI.out).mono ?_); intro e w3 hM; have HM : Hid (Meth base rb lo hi (N + 1) rc.first w (setD p rc.place rc.long rc.over x ws) e w3) := Lib.hid (by rw [setD_3 HNX.out HN1.out HN2.out]; exact hM.from HB2.out); rcases meth_ends hM with rfl | rfl; exact ⟨rfl, HM.out⟩; clear hM))
    all_goals
      go_wp2
      go_end0
      exact HM.out
  · have QN := Lib.hid (wname_at x false hn)
    rw [setD_no hn]
    clear h hL hF hn hf
    go_enter Tryd.func97, Tryd.ntmps97
    go_wp2_with (first | (go_at_call 67; (with_reducible refine (QN.out _).mono ?_); rintro e w2 ⟨rfl, rfl⟩) | (go_at_call 98; (with_reducible refine (refuse_any _ _).mono ?_); rintro e w1 ⟨rfl, rfl⟩))
    exact ⟨rfl, Beside.refl _ _ _, rfl⟩
end Go.Proofs.YtkfpcaganhmkcaaDoor.Rd5
