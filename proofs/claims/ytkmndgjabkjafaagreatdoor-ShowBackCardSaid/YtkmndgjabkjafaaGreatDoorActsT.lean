/-
  Package syntax: ssa, act, set.
  Package syntax: a frame of a state.
-/
import Derived.Test.YtkmndgjabkjafaaGreatDoorInstr
import Derived.Test.YtkmndgjabkjafaaGreatDoorPhi
namespace Go.Proofs.YtkmndgjabkjafaaGreatDoor.Rd5
open Go.RowKit Api Hold Mem Syn WordM Tree

variable {w w' w1 w2 : World} {lo hi rb base N : Nat} {rc : RC} {v : Value} {l ws : List Wd} {row : Option Nat} {a : Tree.Act} {D D2 : List Rec} {p : Prog} {L T : Rec}
def ssaD (p : Prog) (pl lg : Int) (ov : Bool) (ws : List Wd) : Out := if stB pl 1 = false then none else some ({ p with ssa := true }, 2, lg, ov, ws)
theorem ssaD_no {pl lg : Int} {ov : Bool} (h : stB pl 1 = false) : ssaD p pl lg ov ws = none := by unfold ssaD; rw [if_pos h]
set_option maxHeartbeats 2000000 in
theorem ssa_any (h : St w base rb lo hi rc a D p N ws) :
    Calls Tryz.prog 72 #[ptr rb] w (Meth base rb lo hi (N + 1) rc.first w (ssaD p rc.place rc.long rc.over ws)) := by
  by_cases hs : stB rc.place 1 = true
  · have e : ssaD p rc.place rc.long rc.over ws = some ({ p with ssa := true }, 2, rc.long, rc.over, ws) := by unfold ssaD; rw [if_neg (by rw [hs]; simp)]
    rw [e]
    have Q := Lib.hid (stands_yes h.own hs)
    have HH := Lib.hid h
    obtain ⟨f0, z0, l0⟩ := own_at h.own 0
    obtain ⟨f5, z5, l5⟩ := own_at5 h.own
    simp only [RC.l, List.getElem?_cons_zero] at f0
    clear h hs e
    go_enter Tryz.func72, Tryz.ntmps72
    go_wp2_with (go_at_call 43; (with_reducible refine (Q.out).mono ?_); rintro e w1 ⟨rfl, rfl⟩)
    go_end0
    have hO : OwnR ((w.setCell ⟨rb, 0, none⟩ (.bool true)).setCell ⟨rb, 5, none⟩ (i64 2)) rb { rc with ssa := .bool true, place := 2 } := (HH.out.own.store 0 (.bool true)).store 5 (i64 2)
    have hB : Beside base rb w ((w.setCell ⟨rb, 0, none⟩ (.bool true)).setCell ⟨rb, 5, none⟩ (i64 2)) := ((Beside.refl base rb w).set (p := ⟨rb, 0, none⟩) (.inr rfl) _).set (p := ⟨rb, 5, none⟩) (.inr rfl) _
    exact Meth.ok hB rfl (HH.out.finish hB hO (((rb_set (rb_set HH.out.bld HH.out.mid 0 _) HH.out.mid 5 _).ssa true).more (Nat.le_succ N)) rfl HH.out.c HH.out.g HH.out.e HH.out.u rfl) rfl rfl rfl rfl
  · have hs : stB rc.place 1 = false := by simpa using hs
    rw [ssaD_no hs]
    have Q := Lib.hid (stands_no h.own hs)
    clear h hs
    go_enter Tryz.func72, Tryz.ntmps72
    go_wp2_with (go_at_call 43; (with_reducible refine (Q.out).mono ?_); rintro e w1 ⟨rfl, rfl⟩)
    exact ⟨rfl, Beside.refl _ _ _, rfl⟩
set_option maxHeartbeats 2000000 in
theorem act_any (x : Wd) (h : St w base rb lo hi rc a D p N ws) (hN : N < 1073741824) (hws : ws.length ≤ 4194304) (hlg : 0 ≤ rc.long ∧ rc.long ≤ 1000000) (hL : LaidS w) (hF : FitI p rc.place) (hf : rc.first = str x) :
    Calls Tryz.prog 82 #[ptr rb] w (Meth base rb lo hi (N + 1) rc.first w (insD p rc.place rc.long rc.over [] x ws)) := by
  have Q := Lib.hid (instr_any [] x h hN hws hlg hL hF)
  have f7 := h.cells.2.2.2.2.2.2.2.1
  rw [hf] at f7
  clear h hws hlg hL hF hf
  go_enter Tryz.func82, Tryz.ntmps82
  go_wp2_with (go_at_call 131; (with_reducible refine (Q.out).mono ?_); intro e w2 hM; have HM := Lib.hid hM; rcases meth_ends hM with rfl | rfl; exact ⟨rfl, HM.out⟩; clear hM)
  go_end0
  exact HM.out
def setD (p : Prog) (pl lg : Int) (ov : Bool) (x : Wd) (ws : List Wd) : Out :=
  if nameV x = false then none else match takeWord ws with
  | none => none
  | some (_, l) => match takeWord l with
    | none => none
    | some (y, l) => insD p pl lg ov x y l
theorem setD_no {pl lg : Int} {ov : Bool} {x : Wd} (h : nameV x = false) : setD p pl lg ov x ws = none := by unfold setD; rw [if_pos h]
theorem next_take (hO : OwnR w rb rc) (hW : Ws lo hi w rc.rest ws) (hh : hi ≤ rb) : Calls Tryz.prog 137 #[ptr rb] w (TakeR str (takeWord ws) lo hi rb rc w) := by
  cases ws with
  | nil => exact (next_none hO hW).mono fun e w' h => ⟨h.1, by obtain ⟨_, rfl⟩ := h; exact gr_refl _ _⟩
  | cons x l => exact next_some hO hW hh
theorem takeWord_less {y : Wd} (h : takeWord ws = some (y, l)) : l.length + 1 = ws.length := by
  cases ws with
  | nil => cases h
  | cons x m => simp only [takeWord] at h; simp at h; simp [h.2]
theorem setD_1 {pl lg : Int} {ov : Bool} {x : Wd} (h : takeWord ws = none) : setD p pl lg ov x ws = none := by
  unfold setD
  rw [h]
  split <;> rfl
theorem setD_2 {pl lg : Int} {ov : Bool} {x y : Wd} (h : takeWord ws = some (y, l)) (h2 : takeWord l = none) : setD p pl lg ov x ws = none := by
  unfold setD
  rw [h]
  simp only
  rw [h2]
  split <;> rfl
theorem setD_3 {pl lg : Int} {ov : Bool} {x y z : Wd} {l2 : List Wd} (h0 : nameV x = true) (h : takeWord ws = some (y, l)) (h2 : takeWord l = some (z, l2)) : setD p pl lg ov x ws = insD p pl lg ov x z l2 := by
  unfold setD
  rw [if_neg (by rw [h0]; simp), h]
  simp only
  rw [h2]
theorem laid_grown {rb : Nat} (h : LaidS w) (hg : w.grownBy w' (some rb)) (hr : 1 < rb) : LaidS w' := h.of_block (hg.block _ h.lt (by intro e; injection e with e; omega))
set_option maxRecDepth 100000 in
set_option maxHeartbeats 4000000 in
theorem set_any (x : Wd) (h : St w base rb lo hi rc a D p N ws) (hN : N < 1073741824) (hws : ws.length ≤ 4194304) (hlg : 0 ≤ rc.long ∧ rc.long ≤ 1000000) (hL : LaidS w) (hr : 1 < rb) (hF : FitI p rc.place) (hf : rc.first = str x) :
    Calls Tryz.prog 89 #[ptr rb] w (Meth base rb lo hi (N + 1) rc.first w (setD p rc.place rc.long rc.over x ws)) := by
  have f7 := h.cells.2.2.2.2.2.2.2.1
  rw [hf] at f7
  rcases Bool.eq_false_or_eq_true (nameV x) with hn | hn
  · have QN := Lib.hid (wname_at x true hn)
    have Q := Lib.hid (next_take h.own h.wds h.low)
    have HH := Lib.hid h
    have HL := Lib.hid hL
    have HF := Lib.hid hF
    have HLG := Lib.hid hlg
    have HWS := Lib.hid hws
    have HNX := Lib.hid hn
    have HFI := Lib.hid hf
    have HR := Lib.hid hr
    clear h hL hF hn hlg hws hf hr
    go_enter Tryz.func89, Tryz.ntmps89
    go_wp2_with (first
      | (go_at_call 63; (with_reducible refine (QN.out _).mono ?_); rintro e w2 ⟨rfl, rfl⟩)
      | (go_at_call 137; (with_reducible refine (Q.out).mono ?_); intro e w1 hT; rcases take_cases hT with ⟨hn, rfl, hg⟩ | ⟨q, l1, v1, hn, rfl, ho, hw, hg⟩; exact ⟨rfl, st_bad HH hg (setD_1 hn)⟩; have hS1 := HH.out.took ho hw hg; have HS1 := Lib.hid hS1; have g7 := hS1.cells.2.2.2.2.2.2.2.1; simp only at g7; rw [HFI.out] at g7; have HN1 := Lib.hid hn; have HB1 := Lib.hid (Beside.of_grown hg HH.out.high); have HL1 := Lib.hid (laid_grown HL.out hg HR.out); have HW1 := Lib.hid (show l1.length ≤ 4194304 by have := takeWord_less hn; have := HWS.out; omega); have Q2 := Lib.hid (next_take hS1.drew.own hS1.drew.wds hS1.low); clear hT hn ho hw hg hS1 Q))
    go_region_law (first
      | (go_simp; go_at_call 137; (with_reducible refine (Q2.out).mono ?_); intro e w2 hT; rcases take_cases hT with ⟨hn, rfl, hg⟩ | ⟨z, l2, v2, hn, rfl, ho, hw, hg⟩; exact ⟨rfl, Meth.bad (HB1.out.trans (Beside.of_grown (gr_undrew hg) HS1.out.high)) (setD_2 HN1.out hn)⟩; have hS2 := HS1.out.drew.took ho hw hg; have k7 := hS2.cells.2.2.2.2.2.2.2.1; simp only at k7; rw [HFI.out] at k7; have HB2 := Lib.hid (HB1.out.trans (Beside.of_grown (gr_undrew hg) HS1.out.high)); have HN2 := Lib.hid hn; have QI := Lib.hid (instr_any x z hS2 hN (by have := takeWord_less hn; have := HW1.out; omega) HLG.out (laid_grown (w := w1.drew) HL1.out hg HR.out) HF.out); clear hT hn ho hw hg hS2)
      | (go_simp; go_at_call 131; (with_reducible refine (QI.out).mono ?_); intro e w3 hM; have HM : Hid (Meth base rb lo hi (N + 1) rc.first w (setD p rc.place rc.long rc.over x ws) e w3) := Lib.hid (by rw [setD_3 HNX.out HN1.out HN2.out]; exact hM.from HB2.out); rcases meth_ends hM with rfl | rfl; exact ⟨rfl, HM.out⟩; clear hM))
    all_goals
      go_wp2
      go_end0
      exact HM.out
  · have QN := Lib.hid (wname_at x false hn)
    rw [setD_no hn]
    clear h hL hF hn hf
    go_enter Tryz.func89, Tryz.ntmps89
    go_wp2_with (first | (go_at_call 63; (with_reducible refine (QN.out _).mono ?_); rintro e w2 ⟨rfl, rfl⟩) | (go_at_call 90; (with_reducible refine (refuse_any _ _).mono ?_); rintro e w1 ⟨rfl, rfl⟩))
    exact ⟨rfl, Beside.refl _ _ _, rfl⟩
end Go.Proofs.YtkmndgjabkjafaaGreatDoor.Rd5

namespace Go.Proofs.YtkmndgjabkjafaaGreatDoor.Rd5
open Go.RowKit Api Hold Mem Syn WordM Tree

variable {w w' w1 w2 : World} {lo hi rb base N : Nat} {rc : RC} {v : Value} {l ws : List Wd} {row : Option Nat} {a : Tree.Act} {D D2 : List Rec} {p : Prog} {L T : Rec}
theorem bind_info : (Tryz.prog.info? 163).map (fun i => (i.zero, i.size, i.bytes)) = some (some (.agg #[.string ⟨#[]⟩, .int .i64 0, .string ⟨#[]⟩, .int .i64 0]), 4, 48) := by kernel_rfl
theorem frm_info : (Tryz.prog.info? 167).map (fun i => (i.zero, i.size, i.bytes)) = some (some (.agg #[.string ⟨#[]⟩, .string ⟨#[]⟩, .int .i64 0, .slice none 0 0]), 4, 64) := by kernel_rfl
theorem ones_frm (x y : Wd) (n : Int) (A : Option Addr) (k c : Nat) : ∀ u ∈ [str x, str y, i64 n, .slice A k c], u.oneCell' = true := by
  intro u hu
  simp only [List.mem_cons, List.not_mem_nil, or_false] at hu
  rcases hu with rfl | rfl | rfl | rfl <;> rfl
def frmP (p : Prog) (y : Api.Frame) : Prog := inB p fun b => { b with code := Syn.last (fun i => { i with frames := i.frames ++ [y] }) b.code }
def takeBind (ws : List Wd) : Option (Bind × List Wd) := match takeName ws with | some (n, l) => (match takeVal l with | some (a, l) => some (⟨n, a⟩, l) | none => none) | none => none
theorem takeBind_1 (h : takeName ws = none) : takeBind ws = none := by unfold takeBind; rw [h]
theorem takeBind_2 {n : Wd} (h : takeName ws = some (n, l)) (h2 : takeVal l = none) : takeBind ws = none := by unfold takeBind; rw [h]; simp only; rw [h2]
theorem takeBind_3 {n : Wd} {x : Arg} {l2 : List Wd} (h : takeName ws = some (n, l)) (h2 : takeVal l = some (x, l2)) : takeBind ws = some (⟨n, x⟩, l2) := by unfold takeBind; rw [h]; simp only; rw [h2]
def frmD (p : Prog) (pl lg : Int) (ov : Bool) (ws : List Wd) : Out :=
  if stB pl 128 = false then none else match takeName ws with
  | none => none
  | some (x, l) => match takeName l with
    | none => none
    | some (y, l) => match takeCount 1024 l with
      | none => none
      | some (n, l) => match takeAll takeBind l.length l with
        | none => none
        | some vs => some (frmP p ⟨x, y, n, vs⟩, pl, lg, (ov || decide ((16 : Int) < (vs.length : Int))) || decide ((16 : Int) < (((theI p).frames.length + 1 : Nat) : Int)), [])
theorem frmD_no {pl lg : Int} {ov : Bool} (h : stB pl 128 = false) : frmD p pl lg ov ws = none := by unfold frmD; rw [if_pos h]
theorem frmD_1 {pl lg : Int} {ov : Bool} (h : takeName ws = none) : frmD p pl lg ov ws = none := by
  unfold frmD
  rw [h]
  split <;> rfl
theorem frmD_2 {pl lg : Int} {ov : Bool} {x : Wd} (h : takeName ws = some (x, l)) (h1 : takeName l = none) : frmD p pl lg ov ws = none := by
  unfold frmD
  rw [h]
  simp only
  rw [h1]
  split <;> rfl
theorem frmD_3 {pl lg : Int} {ov : Bool} {x y : Wd} {l2 : List Wd} (h : takeName ws = some (x, l)) (h1 : takeName l = some (y, l2)) (h2 : takeCount 1024 l2 = none) : frmD p pl lg ov ws = none := by
  unfold frmD
  rw [h]
  simp only
  rw [h1]
  simp only
  rw [h2]
  split <;> rfl
theorem frmD_4 {pl lg : Int} {ov : Bool} {x y : Wd} {l2 l3 : List Wd} {n : Int} (h : takeName ws = some (x, l)) (h1 : takeName l = some (y, l2)) (h2 : takeCount 1024 l2 = some (n, l3)) (h3 : takeAll takeBind l3.length l3 = none) : frmD p pl lg ov ws = none := by
  unfold frmD
  rw [h]
  simp only
  rw [h1]
  simp only
  rw [h2]
  simp only
  rw [h3]
  split <;> rfl
theorem frmD_5 {pl lg : Int} {ov : Bool} {x y : Wd} {l2 l3 : List Wd} {n : Int} {vs : List Bind} (h0 : stB pl 128 = true) (h : takeName ws = some (x, l)) (h1 : takeName l = some (y, l2)) (h2 : takeCount 1024 l2 = some (n, l3)) (h3 : takeAll takeBind l3.length l3 = some vs) : frmD p pl lg ov ws = some (frmP p ⟨x, y, n, vs⟩, pl, lg, (ov || decide ((16 : Int) < (vs.length : Int))) || decide ((16 : Int) < (((theI p).frames.length + 1 : Nat) : Int)), []) := by
  unfold frmD
  rw [if_neg (by rw [h0]; simp), h]
  simp only
  rw [h1]
  simp only
  rw [h2]
  simp only
  rw [h3]
theorem takeCount_less {m n : Int} (h : takeCount m ws = some (n, l)) : l.length + 1 = ws.length := by
  unfold takeCount at h
  cases hv : takeNum ws with
  | none => rw [hv] at h; cases h
  | some q =>
    obtain ⟨q1, q2⟩ := q
    rw [hv] at h
    simp only at h
    split at h
    · cases h
    · simp at h
      cases ws with
      | nil => cases hv
      | cons x m =>
        simp only [takeNum] at hv
        split at hv
        · simp at hv; rw [← h.2, ← hv.2]; simp
        · cases hv

set_option maxRecDepth 100000 in
set_option maxHeartbeats 8000000 in
theorem frame_any (h : St w base rb lo hi rc a D p N ws) (hN : N < 1073741824) (hws : ws.length ≤ 4194304) (hF : stB rc.place 128 = true → p.funcs ≠ [] ∧ lastB p ≠ [] ∧ (theB p).code ≠ []) :
    Calls Tryz.prog 83 #[ptr rb] w (Meth base rb lo hi (N + 1) rc.first w (frmD p rc.place rc.long rc.over ws)) := by
  by_cases hs : stB rc.place 128 = true
  · obtain ⟨hne, hnb, hnc⟩ := hF hs
    have HSB := Lib.hid hs
    have HS := Lib.hid (stands_yes h.own hs)
    have Q := Lib.hid (name_take h.own h.wds h.low)
    have HH := Lib.hid h
    have HNE := Lib.hid hne
    have HNB := Lib.hid hnb
    have HNC := Lib.hid hnc
    have HWS := Lib.hid hws
    obtain ⟨i0, hi, hz0, hz1, hz2⟩ := info_parts bind_info
    have Hi := Lib.hid hi
    have Hz0 := Lib.hid hz0
    have Hz1 := Lib.hid hz1
    have Hz2 := Lib.hid hz2
    clear h hs hF hne hnb hnc hws hi hz0 hz1 hz2
    go_enter Tryz.func83, Tryz.ntmps83
    go_wp2_with (first
      | (go_at_call 43; (with_reducible refine (HS.out).mono ?_); rintro e w0 ⟨rfl, rfl⟩)
      | (go_at_call 122; (with_reducible refine (Q.out).mono ?_); intro e w1 hT; rcases take_cases hT with ⟨hn, rfl, hg⟩ | ⟨x, l, v1, hn, rfl, ho, hw, hg⟩; exact ⟨rfl, st_bad HH hg (frmD_1 hn)⟩; have hS := HH.out.took ho hw hg; have hl1 := loc_start (t := 167) (size := 4) (t2 := 163) (s2 := 4) (cs := [str x, str [], i64 0, .slice none 0 0]) hS rfl; have HL1 := Lib.hid hl1; have HN := Lib.hid hn; have HB := Lib.hid ((Beside.of_grown hg HH.out.high).grow (World.grownBy_alloc w1 (.cells #[str x, str [], i64 0, .slice none 0 0] 167) none) HH.out.high (by simp)); have HLL : Hid (l.length ≤ 4194304) := Lib.hid (by have := HWS.out; have := takeName_less hn; omega); have Q2 := Lib.hid (name_take hl1.st.own hl1.st.wds hl1.st.low); clear hS hT hn ho hw hg hl1 Q))
    refine (Q2.out).mono ?_; intro e w2 hT; rcases take_cases hT with ⟨hn, rfl, hg⟩ | ⟨y, l2, v2, hn, rfl, ho, hw, hg⟩
    · exact ⟨rfl, Meth.bad (HB.out.trans (Beside.of_grown hg HL1.out.st.high)) (frmD_2 HN.out hn)⟩
    have hLa := HL1.out.took ho hw hg
    obtain ⟨d1, e1, g1⟩ := hLa.cell (j := 1) rfl
    have hL2 := hLa.put 1 (str y)
    have HL2 := Lib.hid hL2
    have HN2 := Lib.hid hn
    have HB2 := Lib.hid ((HB.out.trans (Beside.of_grown hg HL1.out.st.high)).set (p := ⟨w1.heap.size, 1, none⟩) (.inl (hLa.onL.lt (k := w1.heap.size) rfl).1) (str y))
    have HLL2 : Hid (l2.length ≤ 4194304) := Lib.hid (by have := HLL.out; have := takeName_less hn; omega)
    have Q3 := Lib.hid (count_take 1024 hL2.st.own hL2.st.wds hL2.st.low)
    clear hT hn ho hw hg hLa hL2 Q2
    go_wp2_with fail
    refine (Q3.out).mono ?_; intro e w3 hT; rcases take_cases hT with ⟨hn, rfl, hg⟩ | ⟨n, l3, v3, hn, rfl, ho, hw, hg⟩
    · exact ⟨rfl, Meth.bad (HB2.out.trans (Beside.of_grown hg HL2.out.st.high)) (frmD_3 HN.out HN2.out hn)⟩
    have hLb := HL2.out.took ho hw hg
    obtain ⟨d2, e2, g2⟩ := hLb.cell (j := 2) rfl
    have HL3 := Lib.hid (hLb.put 2 (i64 n))
    have HN3 := Lib.hid hn
    have HB3 := Lib.hid ((HB2.out.trans (Beside.of_grown hg HL2.out.st.high)).set (p := ⟨w1.heap.size, 2, none⟩) (.inl (hLb.onL.lt (k := w1.heap.size) rfl).1) (i64 n))
    have HLL3 : Hid (l3.length ≤ 4194304) := Lib.hid (by have := HLL2.out; have := takeCount_less hn; omega)
    clear hT hn ho hw hg hLb Q3
    go_wp2_with fail
    clear d1 e1 g1 d2 e2 g2
    go_loopw [21] (fun _ wr => ∃ (vr : Value) (T : Rec) (ls : List Wd) (vs : List Bind), Hid (Loc wr base rb lo hi { rc with rest := vr } a D p N ls (lrec 167 4 w1.heap.size [str x, str y, i64 n, T.v]) T) ∧ Hid (RowIs 163 4 (fun c x => c = bindC x) T vs) ∧ Hid (All takeBind l3 ls vs) ∧ Hid (Beside base rb w wr)) (fun _ wr => restLen rb wr)
    case atStart => exact ⟨v3, Rec.empty 163 4, l3, [], HL3, Lib.hid (RowIs.none _ _ _), Lib.hid (All.start _ _), HB3⟩
    case round =>
      obtain ⟨vr, ⟨Tt, Ts, Tv, Tn, Tcs⟩, ls, vs, HL, HR, HA, HBs⟩ := hrel
      obtain ⟨TA, tc, hTv⟩ := row_val HL.out.onT HR.out.2.2.1
      simp only at hTv
      subst hTv
      obtain ⟨c1, z1, l1⟩ := (HL.out.cell (j := 3) rfl)
      obtain ⟨rA, rcap, _, f8⟩ := rest_form HL.out.st
      have hTn : Tn ≤ 4194304 := by have := HR.out.2.2.1; have := HA.out.len; have := HLL3.out; simp only at *; omega
      have hTn2 : vs.length ≤ 4194304 := by have := HA.out.len; have := HLL3.out; omega
      cases ls with
      | cons y0 ls =>
        have QN := Lib.hid (name_take HL.out.st.own HL.out.st.wds HL.out.st.low)
        have hlp : 0 < ls.length + 1 := by omega
        rw [List.length_cons] at f8
        go_wp2_with (go_at_call 122; (with_reducible refine (QN.out).mono ?_); intro e w4 hT; rcases take_cases hT with ⟨hn, rfl, hg⟩ | ⟨zx, l4, v4, hn, rfl, ho, hw, hg⟩; exact ⟨rfl, Meth.bad (HBs.out.trans (Beside.of_grown hg HL.out.st.high)) (frmD_4 HN.out HN2.out HN3.out (HA.out.bad (List.cons_ne_nil _ _) (takeBind_1 hn)))⟩; have hL4 := HL.out.took ho hw hg; have HL4 := Lib.hid hL4; obtain ⟨c1a, z1a, l1a⟩ := hL4.cell (j := 3) rfl; have HN4 := Lib.hid hn; have HB4 := Lib.hid (HBs.out.trans (Beside.of_grown hg HL.out.st.high)); have QV := Lib.hid (value_take hL4.drew.st.own hL4.drew.st.wds hL4.st.low); clear hT hn ho hw hg hL4)
        go_region_law (first
          | (go_simp; go_at_call 132; (with_reducible refine (QV.out).mono ?_); intro e w5 hT; rcases take_cases hT with ⟨hn, rfl, hg⟩ | ⟨⟨ak, as_, an⟩, l5, v5, hn, rfl, ho, hw, hg⟩; exact ⟨rfl, Meth.bad (HB4.out.trans (Beside.of_grown (gr_undrew hg) HL4.out.st.high)) (frmD_4 HN.out HN2.out HN3.out (HA.out.bad (List.cons_ne_nil _ _) (takeBind_2 HN4.out hn)))⟩; have HL5 := Lib.hid (HL4.out.drew.took ho hw hg); obtain ⟨c1b, z1b, l1b⟩ := HL5.out.cell (j := 3) rfl; have c1d := al_cell (x := .cells #[str zx, i64 ak, str as_, i64 an] 163) c1b; have HN5 := Lib.hid hn; have HB5 := Lib.hid (HB4.out.trans (Beside.of_grown (gr_undrew hg) HL4.out.st.high)); clear hT hn ho hw hg)
          | (refine step_grow (w0 := w5) rfl _ _ 159 (by rfl) base 163 i0 (.agg #[.string ⟨#[]⟩, .int .i64 0, .string ⟨#[]⟩, .int .i64 0]) 4 48 Tryz.underlying159 Hi.out Hz0.out Hz1.out Hz2.out rfl (by decide) (by decide) _ HR.out.1 HR.out.2.1 (by rfl) HL5.out.onT [str zx, i64 ak, str as_, i64 an] _ rfl (by rfl) rfl (ones_in _ _ _ _) (by simp only; omega) HL5.out.st.high ?_; intro g cap w6 hG; have HG := Lib.hid hG; obtain ⟨c1c, z1c, l1c⟩ := HL5.out.cell_grew hG (j := 3) rfl; clear hG))
        all_goals
          go_wp2
          go_roundw
          case rel => exact ⟨v5, grew ⟨Tt, Ts, .slice TA vs.length tc, Tn, Tcs⟩ (.slice (some ⟨g, 0, none⟩) (Tn + 1) cap) [str zx, i64 ak, str as_, i64 an], l5, vs ++ [⟨zx, ⟨ak, as_, an⟩⟩], (HL5.out.grow HG.out).put 3 (.slice (some ⟨g, 0, none⟩) (Tn + 1) cap), Lib.hid (RowIs.push (x := ⟨zx, ⟨ak, as_, an⟩⟩) HR.out (by have := hTn2; omega) rfl rfl _), Lib.hid (HA.out.step (takeBind_3 HN4.out HN5.out) (by have := takeVal_less HN5.out; have := takeName_less HN4.out; omega)), Lib.hid ((HB5.out.trans (loc_beside HL5.out HG.out)).set (p := ⟨w1.heap.size, 3, none⟩) (.inl (by have := (HL.out.onL.lt (k := w1.heap.size) rfl).1; exact this)) _)⟩
          case measure =>
            have e1 := restLen_of HL.out.st
            have e2 := restLen_of ((HL5.out.grow HG.out).put 3 (.slice (some ⟨g, 0, none⟩) (Tn + 1) cap)).st
            have e3 := takeVal_less HN5.out
            have e4 := takeName_less HN4.out
            simp only [List.length_cons] at e1 e4
            rw [e1, e2]
            omega
      | nil =>
        rw [List.length_nil] at f8
        go_wp2_with (go_at_call 123; (with_reducible refine (limit_any _ _ HL.out.st.own).mono ?_); rintro e w4 ⟨rfl, ho4, hg4, _⟩; have HLo := Lib.hid (HL.out.keep ho4 hg4 rfl rfl rfl rfl rfl rfl); have HB4 := Lib.hid (HBs.out.trans (Beside.of_grown hg4 HL.out.st.high)); clear ho4 hg4)
        obtain ⟨m, g1, cap1, hlen, hav, hgb, hgl, hm, fR, fV, fB, hz, hqf⟩ := func_path HLo.out.st HNE.out
        obtain ⟨m2, g2, cap2, hlen2, hav2, hgb2, hgl2, hm2, fH, fK, hz2, c2, hqb, hc2⟩ := block_path HLo.out.st HNE.out HNB.out
        obtain ⟨m3, g3, cap3, hlen3, hav3, hgb3, hgl3, hm3, fM, fO, hz3⟩ := instr_path HLo.out.st HNE.out HNB.out HNC.out
        obtain ⟨hrM, _, hkn⟩ := last_rows HLo.out.st HNE.out HNB.out HNC.out
        have f4 := HLo.out.st.cells.2.2.2.2.1
        rw [hav] at f4
        rw [hav2] at fB
        rw [hav3] at fK
        have QI := Lib.hid (lastInstr_any f4 hm fB hm2 fK hm3)
        have HRM := Lib.hid hrM
        have hcn : a.M.n ≤ N := HLo.out.st.bld.few _ (by simp [Act.l])
        have HCM := Lib.hid fM
        have HZ3 := Lib.hid (hz3 (m3 * 6 + 4))
        have HAV3 := Lib.hid hav3
        have HL3' := Lib.hid hlen3
        have HKN := Lib.hid hkn
        have HGB3 := Lib.hid hgb3
        have HGL3 := Lib.hid hgl3
        have hr3 : g3 ≠ rb := by have := HLo.out.st.mid; omega
        have HR3 := Lib.hid hr3
        obtain ⟨j0, jz, hj0, hj1, hj2⟩ := info_parts frm_info
        have Hj := Lib.hid jz
        have Hj0 := Lib.hid hj0
        have Hj1 := Lib.hid hj1
        have Hj2 := Lib.hid hj2
        have HC0 := Lib.hid (HLo.out.cell (j := 0) rfl).1
        have HC1 := Lib.hid (HLo.out.cell (j := 1) rfl).1
        have HC2 := Lib.hid (HLo.out.cell (j := 2) rfl).1
        have HC3 := Lib.hid (HLo.out.cell (j := 3) rfl).1
        clear hlen hav hgb hgl hm fR fV fB hz hqf hlen2 hav2 hgb2 hgl2 hm2 fH fK hz2 hqb hc2 hlen3 hav3 hgb3 hgl3 hm3 fM fO hz3 hrM hkn f4 hr3 jz hj0 hj1 hj2
        refine (QI.out).mono ?_; rintro e w5 ⟨rfl, hs5⟩
        have HS5 := Lib.hid hs5; have o5 := hs5.cell HCM.out; have k0 := hs5.cell HC0.out; have k1 := hs5.cell HC1.out; have k2 := hs5.cell HC2.out; have k3 := hs5.cell HC3.out; have o5d := al_cell (x := .cells #[str x, str y, i64 n, .slice TA vs.length tc] 167) o5; have HLd := Lib.hid (HLo.out.sameH hs5).drew; clear hs5
        go_wp2_with fail
        go_region_law (refine step_grow_d (w0 := w5) rfl _ _ 49 (by rfl) base 167 j0 (.agg #[.string ⟨#[]⟩, .string ⟨#[]⟩, .int .i64 0, .slice none 0 0]) 4 64 Tryz.underlying49 Hj.out Hj0.out Hj1.out Hj2.out rfl (by decide) (by decide) a.M HRM.out.1 HRM.out.2.1 (by rfl) (HLd.out.st.on (by simp [Act.l])) [str x, str y, i64 n, .slice TA vs.length tc] _ rfl (by rfl) rfl (ones_frm _ _ _ _ _ _) (by omega) HLd.out.st.high ?_; intro g cap w6 hG; have HGR := Lib.hid hG; have ho2 := own_grown HLd.out.st hG (by simp [Act.l]); obtain ⟨f1c, z1c, l1c⟩ := grew_cell hG (show g3 < w5.drew.heap.size from by have := HGL3.out; have := HS5.out.1; show g3 < w5.heap.size; rw [this]; assumption) (ap_ne (A := [a.C, a.F, a.G, a.E, a.U, a.R, a.V, a.B, a.H, a.K]) (B := [a.O] ++ D) (x := a.K) HLd.out.st.bld.ap (by simp) (by rw [HAV3.out]; rfl)) (HS5.out.drew.cell HCM.out) (HS5.out.drew.thaw HZ3.out); have HO2 := Lib.hid (own_set (a := ⟨g3, m3 * 6 + 4, none⟩) ho2 HR3.out (.slice (some ⟨g, 0, none⟩) (a.M.n + 1) cap)); clear hG ho2)
        all_goals
          go_wp2_with (go_at_call 123; (with_reducible refine (limit_any _ _ HO2.out).mono ?_); rintro e w7 ⟨rfl, ho3, hg3, _⟩; have HO3 := Lib.hid ho3; have HG3 := Lib.hid hg3; clear ho3 hg3)
          go_end0
          have hap := ap_same (loc_sub1 HLd.out.ap) (w' := w5.drew.alloc (.cells #[str x, str y, i64 n, .slice TA vs.length tc] 167)) fun k _ hk => heap_alloc_old w5.drew _ hk
          have hB := Build.frame (g0 := g3) (cap := cap3) (x := ⟨x, y, n, vs⟩) (al_build HLd.out.st.bld (.cells #[str x, str y, i64 n, .slice TA vs.length tc] 167)) HNE.out HNB.out HNC.out hap (fun _ h => List.mem_cons_of_mem _ h) ⟨_, rfl, .of List.mem_cons_self HR.out⟩ rfl HGR.out (by rw [HAV3.out, HKN.out, HL3'.out]) hN
          rw [HL3'.out, Nat.add_sub_cancel] at hB
          obtain ⟨b1, b2, b3⟩ := inner_end2 HLd.out.st (HB4.out.trans HS5.out.drew.beside) (by simp [Act.l]) HGR.out hB HGB3.out HG3.out
          exact Meth.ok (p2 := frmP p ⟨x, y, n, vs⟩) b1 (frmD_5 HSB.out HN.out HN2.out HN3.out HA.out.done) (HLd.out.st.finish b2 HO3.out b3 HLd.out.st.ssa HLd.out.st.c HLd.out.st.g HLd.out.st.e HLd.out.st.u rfl) rfl rfl (by rw [← HRM.out.2.2.1]; rfl) rfl
  · have hs : stB rc.place 128 = false := by simpa using hs
    rw [frmD_no hs]
    have Q := Lib.hid (stands_no h.own hs)
    clear h hs hF
    go_enter Tryz.func83, Tryz.ntmps83
    go_wp2_with (go_at_call 43; (with_reducible refine (Q.out).mono ?_); rintro e w1 ⟨rfl, rfl⟩)
    exact ⟨rfl, Beside.refl _ _ _, rfl⟩
end Go.Proofs.YtkmndgjabkjafaaGreatDoor.Rd5
