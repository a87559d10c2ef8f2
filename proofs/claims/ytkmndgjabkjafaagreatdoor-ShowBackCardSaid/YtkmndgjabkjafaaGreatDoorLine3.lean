/-
  Package syntax: a line.
-/
import Derived.Test.YtkmndgjabkjafaaGreatDoorLineT
import Derived.RegionTactic
import Derived.BigRegion
import Derived.ChangeAlike
namespace Go.Proofs.YtkmndgjabkjafaaGreatDoor.Rd5
open Go.RowKit Api Hold Mem Syn WordM Tree Go.Maps

variable {w w' w1 w2 : World} {lo hi rb base N : Nat} {rc : RC} {v : Value} {l ws : List Wd} {row : Option Nat} {a : Tree.Act} {D D2 : List Rec} {p : Prog} {L T : Rec}
theorem LineP.of {first : Value} {o : Out} {e : Ending} (hB : Beside base rb w w1) (h : Meth base rb lo hi N first w1 o e w') (ho : o = none) : LineP base rb lo hi N w (lineE o) e w' := by
  subst ho; exact ⟨hB.trans h.1, h.2⟩
/-- The reader at a line's first word: the words behind it are left. -/
theorem line_st {x : Wd} {v' : Value} {ws0 : List Wd} (h : St w base rb lo hi rc a D p N ws0) (hv : Ws lo hi w v' l) :
    St ((w.setCell ⟨rb, 7, none⟩ (str x)).setCell ⟨rb, 8, none⟩ v').drew base rb lo hi { rc with first := str x, rest := v' } a D p N l ∧ w.grownBy ((w.setCell ⟨rb, 7, none⟩ (str x)).setCell ⟨rb, 8, none⟩ v').drew (some rb) := by
  have hO1 : OwnR (w.setCell ⟨rb, 7, none⟩ (str x)) rb { rc with first := str x } := h.own.store 7 (str x)
  have hO2 : OwnR ((w.setCell ⟨rb, 7, none⟩ (str x)).setCell ⟨rb, 8, none⟩ v') rb { rc with first := str x, rest := v' } := hO1.store 8 v'
  have hg1 : w.grownBy (w.setCell ⟨rb, 7, none⟩ (str x)) (some rb) := gr_set_row (gr_refl _ _) rfl _
  have hg2 : w.grownBy ((w.setCell ⟨rb, 7, none⟩ (str x)).setCell ⟨rb, 8, none⟩ v') (some rb) := gr_set_row hg1 rfl _
  have hg : w.grownBy ((w.setCell ⟨rb, 7, none⟩ (str x)).setCell ⟨rb, 8, none⟩ v').drew (some rb) := gr_drew hg2
  have h0 := h.mid
  have h1 := h.low
  exact ⟨⟨hO2, h.bld.same fun k hk hlt => hg.block k hlt (by intro e; injection e with e; omega), h.ssa, h.c, h.g, h.e, h.u, hv.grown hg (fun k hk => by injection hk with hk; omega) (by have := h.high; omega), h.low, h.mid, Nat.le_trans h.high hg.size⟩, hg⟩
theorem meth_none {first : Value} {o : Out} {e : Ending} (h : Meth base rb lo hi N first w o e w') (ho : o = none) : e = .panicked (chain 3) ∧ Beside base rb w w' := by
  subst ho; exact ⟨h.2, h.1⟩
theorem meth_some {first : Value} {o : Out} {e : Ending} {p2 : Prog} {pl lg : Int} {ov : Bool} (h : Meth base rb lo hi N first w o e w') (ho : o = some (p2, pl, lg, ov, ws)) :
    e = .returned (.tuple #[]) ∧ Beside base rb w w' ∧ ∃ rc2 a2 D2, St w' base rb lo hi rc2 a2 D2 p2 N ws ∧ rc2.place = pl ∧ rc2.long = lg ∧ rc2.over = ov := by
  subst ho
  obtain ⟨h1, h2, rc2, a2, D2, h3, h4, h5, h6, _⟩ := h
  exact ⟨h2, h1, rc2, a2, D2, h3, h4, h5, h6⟩
theorem Ws.some {y : Wd} (h : Ws lo hi w v (y :: l)) : ∃ A m cap, v = .slice A m cap ∧ (0 : Int) < (m : Int) := by
  obtain ⟨A, n, cap, b, off, e, hn, _⟩ := h
  exact ⟨A, n, cap, e, by simp at hn; omega⟩
theorem xsize {x : Wd} (h : x.length ≤ 4194304) : (⟨x.toArray⟩ : ByteArray).size ≤ maxLen := by
  have : (⟨x.toArray⟩ : ByteArray).size = x.length := by show x.toArray.size = _; simp
  unfold maxLen; omega
set_option maxRecDepth 100000 in
theorem nil_eq (w : World) : Sem.run Tryz.prog (binOp BinOp.eql 143 .nilFunc .nilFunc) w = .ok (.bool true) w := by rfl
set_option maxRecDepth 100000 in
theorem nil_ne (k : Nat) (w : World) : Sem.run Tryz.prog (binOp BinOp.eql 143 (.func (.func k) #[] #[]) .nilFunc) w = .ok (.bool false) w := by rfl
set_option maxRecDepth 100000 in
theorem known_at {w : World} {mb : Nat} {x : Wd} (h : w.ownsMap Tryz.prog 9 fnElem mb 20 tabD) (hx : x.length ≤ 4194304) :
    ∃ fv, (Instr.lookup 104 (.map (some mb)) (str x) false).run Tryz.prog w = .ok fv w ∧ ((tabV x = -1 ∧ fv = .nilFunc) ∨ ∃ n : Nat, tabV x = (n : Int) ∧ fv = .func (.func n) #[] #[]) := by
  obtain ⟨fv, ps, h1, h2⟩ := h.lookup (t := 104) (e := 143) (z := .nilFunc) (zd := .lit (.int .i64 (-1))) (zp := []) (kl := .string x) (key := str x) law5 (by rfl) (by rfl) rfl (Go.WideMaps.keyOf_string_mk Tryz.underlying9 (xsize hx))
  rw [tab_at] at h2
  exact ⟨fv, h1, fnElem_inv h2⟩
set_option maxRecDepth 100000 in
set_option maxHeartbeats 4000000 in
theorem line_one {x : Wd} {mb n cap b off : Nat} {ws0 : List Wd} (h : St w base rb lo hi rc a D p N ws0) (hov : rc.over = false) (hN : N < 1073741824) (hlg : 0 ≤ rc.long ∧ rc.long ≤ 1000000) (hL : LaidS w) (hr : 1 < rb) (hF : Fits p rc.place)
    (hn : n = (x :: []).length) (hc : n ≤ cap) (hmx : cap ≤ 9223372036854775807) (h2 : cap = 1) (_hb1 : lo ≤ b) (hb2 : b < hi) (hw : ∀ i z, (x :: [])[i]? = some z → w.cell? ⟨b, off + i, none⟩ = some (str z)) (hs : ∀ z ∈ x :: [], z.length ≤ 4194304) (hlen : (x :: []).length ≤ 4194304) (hm : w.ownsMap Tryz.prog 9 fnElem mb 20 tabD) (hmb : mb ≠ rb) :
    Calls Tryz.prog 42 #[ptr rb, .slice (some ⟨b, off, none⟩) n cap, .map (some mb)] w (LineP base rb lo hi (N + 1) w (lineE (lineO p rc.place rc.long x []))) := by
  have z7 := h.own.thaw 7
  have z8 := h.own.thaw 8
  have c7 := h.cells.2.2.2.2.2.2.2.1
  have c8 := h.cells.2.2.2.2.2.2.2.2.1
  have c0 := hw 0 x rfl
  rw [Nat.add_zero] at c0
  have hn2 : n = ([] : List Wd).length + 1 := by simpa using hn
  have hn1 : (0 : Int) < (n : Int) := by omega
  have hrb : b ≠ rb := by have := h.low; omega
  have HV : Hid (Ws lo hi w (.slice (some ⟨b, off, none⟩) 0 0) []) := Lib.hid ⟨_, 0, 0, b, off, rfl, rfl, by omega, by omega, fun h => absurd h (by omega), fun i z hz => by simp at hz, fun z hz => by simp at hz⟩
  have HXL := Lib.hid (hs x List.mem_cons_self)
  have HBW := Lib.hid (World.block_lt_of_cell? w _ c0)
  have HN := Lib.hid hn2
  have HH := Lib.hid h
  have HLE : Hid (([] : List Wd).length ≤ 4194304) := Lib.hid (by first | (simp; done) | (simp at hlen ⊢; omega))
  have HX := Lib.hid (And.intro hov (And.intro hN (And.intro hlg (And.intro hL (And.intro hr (And.intro hF (And.intro hm hmb)))))))
  subst h2
  obtain rfl : n = 1 := by omega
  clear hw hs hn hn2 h hov hN hlg hL hr hF hlen hm hmb
  go_enter Tryz.func42, Tryz.ntmps42
  go_wp2
  go_region
  generalize hw3 : ((w.setCell ⟨rb, 7, none⟩ (str x)).setCell ⟨rb, 8, none⟩ (.slice (some ⟨b, off, none⟩) 0 0)).drew = w3
  have hS := line_st (x := x) HH.out HV.out
  rw [hw3] at hS
  clear hw3 z7 z8 c7 c8 c0
  obtain ⟨hov, hN, hlg, hL, hr, hF, hm, hmb⟩ := HX.out
  have hL3 := laid_grown hL hS.2 hr
  have hm3 := hm.kept hS.2 (by intro e; injection e with e; exact hmb e)
  obtain ⟨fv, hrun, hfv⟩ := known_at (x := x) hm3 HXL.out
  have c7 := hS.1.cells.2.2.2.2.2.2.2.1
  have c8 := hS.1.cells.2.2.2.2.2.2.2.2.1
  simp only at c7 c8
  have hne := nil_ne
  have hnq := nil_eq
  have HB3 := Lib.hid (Beside.of_grown hS.2 HH.out.high)
  have HE : Hid (lineO p rc.place rc.long x [] = dispD p rc.place rc.long x []) := Lib.hid (by unfold lineO; rw [if_neg (by simp)])
  have hT := tab_calls x hS.1 hov hN HLE.out hlg hL3 hF rfl
  simp only at hT
  rw [← HE.out] at hT
  have HS := Lib.hid hS
  clear hS hm hm3 hL hL3 hF hN hlg hov hr hmb
  rcases hfv with ⟨hk, rfl⟩ | ⟨k, hk, rfl⟩
  · have hd : lineO p rc.place rc.long x [] = none := by
      rcases hT with ⟨_, hd⟩ | ⟨n', ht, _, _⟩
      · exact hd
      · exfalso; rw [hk] at ht; omega
    have HD := Lib.hid hd
    clear hT hk hd
    go_wp2_with (first | (go_at_call 90; (with_reducible refine (refuse_any _ _).mono ?_); rintro e w5 ⟨rfl, rfl⟩))
    exact ⟨rfl, HB3.out, by rw [HD.out]; rfl⟩
  · obtain ⟨hcf, hC⟩ : (∀ args w, (callFunc k args).run Tryz.prog w = .ok (.enter k args) w) ∧ Calls Tryz.prog k #[ptr rb] w3 (Meth base rb lo hi (N + 1) (str x) w3 (lineO p rc.place rc.long x [])) := by
      rcases hT with ⟨ht, _⟩ | ⟨n', ht, hC⟩
      · exfalso; rw [hk] at ht; omega
      · rw [hk] at ht
        obtain rfl : k = n' := by omega
        exact hC
    clear hT hk
    have HC := Lib.hid hC
    clear hC
    rcases hO : lineO p rc.place rc.long x [] with _ | ⟨p2, pl, lg, ov, ws2⟩
    · have HO := Lib.hid hO
      clear hO
      go_wp2_with (first | ((with_reducible refine (HC.out).mono ?_); intro e w4 hM; obtain ⟨rfl, hB⟩ := meth_none hM HO.out; have HB := Lib.hid hB; clear hM hB) | (go_at_call 90; (with_reducible refine (refuse_any _ _).mono ?_); rintro e w5 ⟨rfl, rfl⟩))
      exact ⟨rfl, HB3.out.trans HB.out, by rw [HO.out]; rfl⟩
    · cases ws2 with
      | nil =>
        cases ov
        · have HO := Lib.hid hO
          clear hO
          go_wp2_with (first | ((with_reducible refine (HC.out).mono ?_); intro e w4 hM; obtain ⟨rfl, hB, rc2, a2, D2, hS2, h5, h6, h7⟩ := meth_some hM HO.out; have HB := Lib.hid hB; have g8 := hS2.cells.2.2.2.2.2.2.2.2.1; have g9 := hS2.cells.2.2.2.2.2.2.2.2.2; obtain ⟨A2, cap2, e8⟩ := hS2.wds.none; rw [e8] at g8; rw [h7] at g9; have HS2 := Lib.hid hS2; have H5 := Lib.hid (And.intro h5 (And.intro h6 h7)); clear hM hB hS2 e8 h5 h6 h7) | (go_at_call 90; (with_reducible refine (refuse_any _ _).mono ?_); rintro e w5 ⟨rfl, rfl⟩))
          go_end0
          refine ⟨HB3.out.trans HB.out, ?_⟩
          rw [HO.out]
          exact ⟨rfl, rc2, a2, D2, HS2.out, H5.out.1, H5.out.2.1, H5.out.2.2⟩
        · have HO := Lib.hid hO
          clear hO
          go_wp2_with (first | ((with_reducible refine (HC.out).mono ?_); intro e w4 hM; obtain ⟨rfl, hB, rc2, a2, D2, hS2, h5, h6, h7⟩ := meth_some hM HO.out; have HB := Lib.hid hB; have g8 := hS2.cells.2.2.2.2.2.2.2.2.1; have g9 := hS2.cells.2.2.2.2.2.2.2.2.2; obtain ⟨A2, cap2, e8⟩ := hS2.wds.none; rw [e8] at g8; rw [h7] at g9; have HS2 := Lib.hid hS2; have H5 := Lib.hid (And.intro h5 (And.intro h6 h7)); clear hM hB hS2 e8 h5 h6 h7) | (go_at_call 90; (with_reducible refine (refuse_any _ _).mono ?_); rintro e w5 ⟨rfl, rfl⟩))
          exact ⟨rfl, HB3.out.trans HB.out, by rw [HO.out]; rfl⟩
      | cons z l3 =>
        have HO := Lib.hid hO
        clear hO
        go_wp2_with (first | ((with_reducible refine (HC.out).mono ?_); intro e w4 hM; obtain ⟨rfl, hB, rc2, a2, D2, hS2, h5, h6, h7⟩ := meth_some hM HO.out; have HB := Lib.hid hB; have g8 := hS2.cells.2.2.2.2.2.2.2.2.1; obtain ⟨A2, m2, cap2, e8, hm5⟩ := Ws.some hS2.wds; rw [e8] at g8; clear hM hB hS2 e8 h5 h6 h7) | (go_at_call 90; (with_reducible refine (refuse_any _ _).mono ?_); rintro e w5 ⟨rfl, rfl⟩))
        exact ⟨rfl, HB3.out.trans HB.out, by rw [HO.out]; rfl⟩
set_option maxRecDepth 100000 in
set_option maxHeartbeats 4000000 in
theorem line_nil {x : Wd} {mb n cap b off : Nat} {ws0 : List Wd} (h : St w base rb lo hi rc a D p N ws0) (hov : rc.over = false) (hN : N < 1073741824) (hlg : 0 ≤ rc.long ∧ rc.long ≤ 1000000) (hL : LaidS w) (hr : 1 < rb) (hF : Fits p rc.place)
    (hn : n = (x :: []).length) (hc : n ≤ cap) (hmx : cap ≤ 9223372036854775807) (h2 : 1 < cap) (hb1 : lo ≤ b) (hb2 : b < hi) (hw : ∀ i z, (x :: [])[i]? = some z → w.cell? ⟨b, off + i, none⟩ = some (str z)) (hs : ∀ z ∈ x :: [], z.length ≤ 4194304) (hlen : (x :: []).length ≤ 4194304) (hm : w.ownsMap Tryz.prog 9 fnElem mb 20 tabD) (hmb : mb ≠ rb) :
    Calls Tryz.prog 42 #[ptr rb, .slice (some ⟨b, off, none⟩) n cap, .map (some mb)] w (LineP base rb lo hi (N + 1) w (lineE (lineO p rc.place rc.long x []))) := by
  have z7 := h.own.thaw 7
  have z8 := h.own.thaw 8
  have c7 := h.cells.2.2.2.2.2.2.2.1
  have c8 := h.cells.2.2.2.2.2.2.2.2.1
  have c0 := hw 0 x rfl
  rw [Nat.add_zero] at c0
  have hn2 : n = ([] : List Wd).length + 1 := by simpa using hn
  have hn1 : (0 : Int) < (n : Int) := by omega
  have hrb : b ≠ rb := by have := h.low; omega
  have HV : Hid (Ws lo hi w (.slice (some ⟨b, off + 1, none⟩) (n - 1) (cap - 1)) []) := Lib.hid ⟨_, _, _, b, off + 1, rfl, by rw [hn2]; rfl, by omega, by omega, fun _ => ⟨rfl, hb1, hb2⟩, fun i z hz => by simp at hz, fun z hz => by simp at hz⟩
  have HXL := Lib.hid (hs x List.mem_cons_self)
  have HBW := Lib.hid (World.block_lt_of_cell? w _ c0)
  have HN := Lib.hid hn2
  have HH := Lib.hid h
  have HLE : Hid (([] : List Wd).length ≤ 4194304) := Lib.hid (by first | (simp; done) | (simp at hlen ⊢; omega))
  have HX := Lib.hid (And.intro hov (And.intro hN (And.intro hlg (And.intro hL (And.intro hr (And.intro hF (And.intro hm hmb)))))))
  clear hw hs hn hn2 h hov hN hlg hL hr hF hlen hm hmb
  go_enter Tryz.func42, Tryz.ntmps42
  go_wp2
  go_region
  generalize hw3 : ((w.setCell ⟨rb, 7, none⟩ (str x)).setCell ⟨rb, 8, none⟩ (.slice (some ⟨b, off + 1, none⟩) (n - 1) (cap - 1))).drew = w3
  have hS := line_st (x := x) HH.out HV.out
  rw [hw3] at hS
  clear hw3 z7 z8 c7 c8 c0
  obtain ⟨hov, hN, hlg, hL, hr, hF, hm, hmb⟩ := HX.out
  have hL3 := laid_grown hL hS.2 hr
  have hm3 := hm.kept hS.2 (by intro e; injection e with e; exact hmb e)
  obtain ⟨fv, hrun, hfv⟩ := known_at (x := x) hm3 HXL.out
  have c7 := hS.1.cells.2.2.2.2.2.2.2.1
  have c8 := hS.1.cells.2.2.2.2.2.2.2.2.1
  simp only at c7 c8
  have hne := nil_ne
  have hnq := nil_eq
  have HB3 := Lib.hid (Beside.of_grown hS.2 HH.out.high)
  obtain ⟨m, hm1⟩ : ∃ m, m = n - 1 := ⟨_, rfl⟩
  rw [← hm1] at c8
  obtain rfl : m = 0 := by have := HN.out; simp at this; omega
  clear hm1
  have HE : Hid (lineO p rc.place rc.long x [] = dispD p rc.place rc.long x []) := Lib.hid (by unfold lineO; rw [if_neg (by simp)])
  have hT := tab_calls x hS.1 hov hN HLE.out hlg hL3 hF rfl
  simp only at hT
  rw [← HE.out] at hT
  have HS := Lib.hid hS
  clear hS hm hm3 hL hL3 hF hN hlg hov hr hmb
  rcases hfv with ⟨hk, rfl⟩ | ⟨k, hk, rfl⟩
  · have hd : lineO p rc.place rc.long x [] = none := by
      rcases hT with ⟨_, hd⟩ | ⟨n', ht, _, _⟩
      · exact hd
      · exfalso; rw [hk] at ht; omega
    have HD := Lib.hid hd
    clear hT hk hd
    go_wp2_with (first | (go_at_call 90; (with_reducible refine (refuse_any _ _).mono ?_); rintro e w5 ⟨rfl, rfl⟩))
    exact ⟨rfl, HB3.out, by rw [HD.out]; rfl⟩
  · obtain ⟨hcf, hC⟩ : (∀ args w, (callFunc k args).run Tryz.prog w = .ok (.enter k args) w) ∧ Calls Tryz.prog k #[ptr rb] w3 (Meth base rb lo hi (N + 1) (str x) w3 (lineO p rc.place rc.long x [])) := by
      rcases hT with ⟨ht, _⟩ | ⟨n', ht, hC⟩
      · exfalso; rw [hk] at ht; omega
      · rw [hk] at ht
        obtain rfl : k = n' := by omega
        exact hC
    clear hT hk
    have HC := Lib.hid hC
    clear hC
    rcases hO : lineO p rc.place rc.long x [] with _ | ⟨p2, pl, lg, ov, ws2⟩
    · have HO := Lib.hid hO
      clear hO
      go_wp2_with (first | ((with_reducible refine (HC.out).mono ?_); intro e w4 hM; obtain ⟨rfl, hB⟩ := meth_none hM HO.out; have HB := Lib.hid hB; clear hM hB) | (go_at_call 90; (with_reducible refine (refuse_any _ _).mono ?_); rintro e w5 ⟨rfl, rfl⟩))
      exact ⟨rfl, HB3.out.trans HB.out, by rw [HO.out]; rfl⟩
    · cases ws2 with
      | nil =>
        cases ov
        · have HO := Lib.hid hO
          clear hO
          go_wp2_with (first | ((with_reducible refine (HC.out).mono ?_); intro e w4 hM; obtain ⟨rfl, hB, rc2, a2, D2, hS2, h5, h6, h7⟩ := meth_some hM HO.out; have HB := Lib.hid hB; have g8 := hS2.cells.2.2.2.2.2.2.2.2.1; have g9 := hS2.cells.2.2.2.2.2.2.2.2.2; obtain ⟨A2, cap2, e8⟩ := hS2.wds.none; rw [e8] at g8; rw [h7] at g9; have HS2 := Lib.hid hS2; have H5 := Lib.hid (And.intro h5 (And.intro h6 h7)); clear hM hB hS2 e8 h5 h6 h7) | (go_at_call 90; (with_reducible refine (refuse_any _ _).mono ?_); rintro e w5 ⟨rfl, rfl⟩))
          go_end0
          refine ⟨HB3.out.trans HB.out, ?_⟩
          rw [HO.out]
          exact ⟨rfl, rc2, a2, D2, HS2.out, H5.out.1, H5.out.2.1, H5.out.2.2⟩
        · have HO := Lib.hid hO
          clear hO
          go_wp2_with (first | ((with_reducible refine (HC.out).mono ?_); intro e w4 hM; obtain ⟨rfl, hB, rc2, a2, D2, hS2, h5, h6, h7⟩ := meth_some hM HO.out; have HB := Lib.hid hB; have g8 := hS2.cells.2.2.2.2.2.2.2.2.1; have g9 := hS2.cells.2.2.2.2.2.2.2.2.2; obtain ⟨A2, cap2, e8⟩ := hS2.wds.none; rw [e8] at g8; rw [h7] at g9; have HS2 := Lib.hid hS2; have H5 := Lib.hid (And.intro h5 (And.intro h6 h7)); clear hM hB hS2 e8 h5 h6 h7) | (go_at_call 90; (with_reducible refine (refuse_any _ _).mono ?_); rintro e w5 ⟨rfl, rfl⟩))
          exact ⟨rfl, HB3.out.trans HB.out, by rw [HO.out]; rfl⟩
      | cons z l3 =>
        have HO := Lib.hid hO
        clear hO
        go_wp2_with (first | ((with_reducible refine (HC.out).mono ?_); intro e w4 hM; obtain ⟨rfl, hB, rc2, a2, D2, hS2, h5, h6, h7⟩ := meth_some hM HO.out; have HB := Lib.hid hB; have g8 := hS2.cells.2.2.2.2.2.2.2.2.1; obtain ⟨A2, m2, cap2, e8, hm5⟩ := Ws.some hS2.wds; rw [e8] at g8; clear hM hB hS2 e8 h5 h6 h7) | (go_at_call 90; (with_reducible refine (refuse_any _ _).mono ?_); rintro e w5 ⟨rfl, rfl⟩))
        exact ⟨rfl, HB3.out.trans HB.out, by rw [HO.out]; rfl⟩
set_option maxRecDepth 100000 in
set_option maxHeartbeats 4000000 in
theorem line_ne {x y : Wd} {mb n cap b off : Nat} {ws0 : List Wd} (h : St w base rb lo hi rc a D p N ws0) (hov : rc.over = false) (hN : N < 1073741824) (hlg : 0 ≤ rc.long ∧ rc.long ≤ 1000000) (hL : LaidS w) (hr : 1 < rb) (hF : Fits p rc.place)
    (hn : n = (x :: (y :: l)).length) (hc : n ≤ cap) (hmx : cap ≤ 9223372036854775807) (h2 : 1 < cap) (hb1 : lo ≤ b) (hb2 : b < hi) (hw : ∀ i z, (x :: (y :: l))[i]? = some z → w.cell? ⟨b, off + i, none⟩ = some (str z)) (hs : ∀ z ∈ x :: (y :: l), z.length ≤ 4194304) (hlen : (x :: (y :: l)).length ≤ 4194304) (hm : w.ownsMap Tryz.prog 9 fnElem mb 20 tabD) (hmb : mb ≠ rb) (hy : ¬ y = [61]) :
    Calls Tryz.prog 42 #[ptr rb, .slice (some ⟨b, off, none⟩) n cap, .map (some mb)] w (LineP base rb lo hi (N + 1) w (lineE (lineO p rc.place rc.long x (y :: l)))) := by
  have z7 := h.own.thaw 7
  have z8 := h.own.thaw 8
  have c7 := h.cells.2.2.2.2.2.2.2.1
  have c8 := h.cells.2.2.2.2.2.2.2.2.1
  have c0 := hw 0 x rfl
  rw [Nat.add_zero] at c0
  have hn2 : n = (y :: l).length + 1 := by simpa using hn
  have hn1 : (0 : Int) < (n : Int) := by omega
  have hrb : b ≠ rb := by have := h.low; omega
  have HV : Hid (Ws lo hi w (.slice (some ⟨b, off + 1, none⟩) (n - 1) (cap - 1)) (y :: l)) := Lib.hid ⟨_, _, _, b, off + 1, rfl, by rw [hn2]; rfl, by omega, by omega, fun _ => ⟨rfl, hb1, hb2⟩, fun i z hz => by have := hw (i + 1) z (by simpa using hz); rw [← this]; congr 2; omega, fun z hz => hs z (List.mem_cons_of_mem _ hz)⟩
  have HXL := Lib.hid (hs x List.mem_cons_self)
  have HBW := Lib.hid (World.block_lt_of_cell? w _ c0)
  have HC1 := Lib.hid (hw 1 y rfl)
  have HN := Lib.hid hn2
  have HH := Lib.hid h
  have HLE : Hid ((y :: l).length ≤ 4194304) := Lib.hid (by first | (simp; done) | (simp at hlen ⊢; omega))
  have HX := Lib.hid (And.intro hov (And.intro hN (And.intro hlg (And.intro hL (And.intro hr (And.intro hF (And.intro hm hmb)))))))
  clear hw hs hn hn2 h hov hN hlg hL hr hF hlen hm hmb
  have HY := Lib.hid hy
  clear hy
  go_enter Tryz.func42, Tryz.ntmps42
  go_wp2
  go_region
  generalize hw3 : ((w.setCell ⟨rb, 7, none⟩ (str x)).setCell ⟨rb, 8, none⟩ (.slice (some ⟨b, off + 1, none⟩) (n - 1) (cap - 1))).drew = w3
  have hS := line_st (x := x) HH.out HV.out
  rw [hw3] at hS
  clear hw3 z7 z8 c7 c8 c0
  obtain ⟨hov, hN, hlg, hL, hr, hF, hm, hmb⟩ := HX.out
  have hL3 := laid_grown hL hS.2 hr
  have hm3 := hm.kept hS.2 (by intro e; injection e with e; exact hmb e)
  obtain ⟨fv, hrun, hfv⟩ := known_at (x := x) hm3 HXL.out
  have c7 := hS.1.cells.2.2.2.2.2.2.2.1
  have c8 := hS.1.cells.2.2.2.2.2.2.2.2.1
  simp only at c7 c8
  have hne := nil_ne
  have hnq := nil_eq
  have HB3 := Lib.hid (Beside.of_grown hS.2 HH.out.high)
  obtain ⟨m, hm1⟩ : ∃ m, m = n - 1 := ⟨_, rfl⟩
  rw [← hm1] at c8
  have hm2 : (0 : Int) < (m : Int) := by have := HN.out; simp at this; omega
  have hm4 : 0 < m := by omega
  have c1 := (World.cell?_of_block (w := w) (a := ⟨b, off + 1, none⟩) (hS.2.block b HBW.out (by intro e; injection e with e; exact hrb e))).trans HC1.out
  obtain ⟨s, hs⟩ : ∃ s : ByteArray, s = ⟨y.toArray⟩ := ⟨_, rfl⟩
  have hsd : s.data.toList = y := by rw [hs]
  have e1 : (s.toList == [61]) = false := (eq_lit5 (c := [61]) hsd).trans (by have := HY.out; simpa using this)
  have hx1 : str y = .string s := by rw [hs]
  rw [hx1] at c1
  clear hs hsd hx1
  clear hm1
  have HE : Hid (lineO p rc.place rc.long x (y :: l) = dispD p rc.place rc.long x (y :: l)) := Lib.hid (by unfold lineO; rw [if_neg (by intro e; injection e with e; exact HY.out e)])
  have hT := tab_calls x hS.1 hov hN HLE.out hlg hL3 hF rfl
  simp only at hT
  rw [← HE.out] at hT
  have HS := Lib.hid hS
  clear hS hm hm3 hL hL3 hF hN hlg hov hr hmb
  rcases hfv with ⟨hk, rfl⟩ | ⟨k, hk, rfl⟩
  · have hd : lineO p rc.place rc.long x (y :: l) = none := by
      rcases hT with ⟨_, hd⟩ | ⟨n', ht, _, _⟩
      · exact hd
      · exfalso; rw [hk] at ht; omega
    have HD := Lib.hid hd
    clear hT hk hd
    go_wp2_with (first | (go_at_call 90; (with_reducible refine (refuse_any _ _).mono ?_); rintro e w5 ⟨rfl, rfl⟩))
    exact ⟨rfl, HB3.out, by rw [HD.out]; rfl⟩
  · obtain ⟨hcf, hC⟩ : (∀ args w, (callFunc k args).run Tryz.prog w = .ok (.enter k args) w) ∧ Calls Tryz.prog k #[ptr rb] w3 (Meth base rb lo hi (N + 1) (str x) w3 (lineO p rc.place rc.long x (y :: l))) := by
      rcases hT with ⟨ht, _⟩ | ⟨n', ht, hC⟩
      · exfalso; rw [hk] at ht; omega
      · rw [hk] at ht
        obtain rfl : k = n' := by omega
        exact hC
    clear hT hk
    have HC := Lib.hid hC
    clear hC
    rcases hO : lineO p rc.place rc.long x (y :: l) with _ | ⟨p2, pl, lg, ov, ws2⟩
    · have HO := Lib.hid hO
      clear hO
      go_wp2_with (first | ((with_reducible refine (HC.out).mono ?_); intro e w4 hM; obtain ⟨rfl, hB⟩ := meth_none hM HO.out; have HB := Lib.hid hB; clear hM hB) | (go_at_call 90; (with_reducible refine (refuse_any _ _).mono ?_); rintro e w5 ⟨rfl, rfl⟩))
      exact ⟨rfl, HB3.out.trans HB.out, by rw [HO.out]; rfl⟩
    · cases ws2 with
      | nil =>
        cases ov
        · have HO := Lib.hid hO
          clear hO
          go_wp2_with (first | ((with_reducible refine (HC.out).mono ?_); intro e w4 hM; obtain ⟨rfl, hB, rc2, a2, D2, hS2, h5, h6, h7⟩ := meth_some hM HO.out; have HB := Lib.hid hB; have g8 := hS2.cells.2.2.2.2.2.2.2.2.1; have g9 := hS2.cells.2.2.2.2.2.2.2.2.2; obtain ⟨A2, cap2, e8⟩ := hS2.wds.none; rw [e8] at g8; rw [h7] at g9; have HS2 := Lib.hid hS2; have H5 := Lib.hid (And.intro h5 (And.intro h6 h7)); clear hM hB hS2 e8 h5 h6 h7) | (go_at_call 90; (with_reducible refine (refuse_any _ _).mono ?_); rintro e w5 ⟨rfl, rfl⟩))
          go_end0
          refine ⟨HB3.out.trans HB.out, ?_⟩
          rw [HO.out]
          exact ⟨rfl, rc2, a2, D2, HS2.out, H5.out.1, H5.out.2.1, H5.out.2.2⟩
        · have HO := Lib.hid hO
          clear hO
          go_wp2_with (first | ((with_reducible refine (HC.out).mono ?_); intro e w4 hM; obtain ⟨rfl, hB, rc2, a2, D2, hS2, h5, h6, h7⟩ := meth_some hM HO.out; have HB := Lib.hid hB; have g8 := hS2.cells.2.2.2.2.2.2.2.2.1; have g9 := hS2.cells.2.2.2.2.2.2.2.2.2; obtain ⟨A2, cap2, e8⟩ := hS2.wds.none; rw [e8] at g8; rw [h7] at g9; have HS2 := Lib.hid hS2; have H5 := Lib.hid (And.intro h5 (And.intro h6 h7)); clear hM hB hS2 e8 h5 h6 h7) | (go_at_call 90; (with_reducible refine (refuse_any _ _).mono ?_); rintro e w5 ⟨rfl, rfl⟩))
          exact ⟨rfl, HB3.out.trans HB.out, by rw [HO.out]; rfl⟩
      | cons z l3 =>
        have HO := Lib.hid hO
        clear hO
        go_wp2_with (first | ((with_reducible refine (HC.out).mono ?_); intro e w4 hM; obtain ⟨rfl, hB, rc2, a2, D2, hS2, h5, h6, h7⟩ := meth_some hM HO.out; have HB := Lib.hid hB; have g8 := hS2.cells.2.2.2.2.2.2.2.2.1; obtain ⟨A2, m2, cap2, e8, hm5⟩ := Ws.some hS2.wds; rw [e8] at g8; clear hM hB hS2 e8 h5 h6 h7) | (go_at_call 90; (with_reducible refine (refuse_any _ _).mono ?_); rintro e w5 ⟨rfl, rfl⟩))
        exact ⟨rfl, HB3.out.trans HB.out, by rw [HO.out]; rfl⟩
set_option maxRecDepth 100000 in
set_option maxHeartbeats 4000000 in
theorem line_eq {x y : Wd} {mb n cap b off : Nat} {ws0 : List Wd} (h : St w base rb lo hi rc a D p N ws0) (hov : rc.over = false) (hN : N < 1073741824) (hlg : 0 ≤ rc.long ∧ rc.long ≤ 1000000) (hL : LaidS w) (hr : 1 < rb) (hF : Fits p rc.place)
    (hn : n = (x :: (y :: l)).length) (hc : n ≤ cap) (hmx : cap ≤ 9223372036854775807) (h2 : 1 < cap) (hb1 : lo ≤ b) (hb2 : b < hi) (hw : ∀ i z, (x :: (y :: l))[i]? = some z → w.cell? ⟨b, off + i, none⟩ = some (str z)) (hs : ∀ z ∈ x :: (y :: l), z.length ≤ 4194304) (hlen : (x :: (y :: l)).length ≤ 4194304) (hm : w.ownsMap Tryz.prog 9 fnElem mb 20 tabD) (hmb : mb ≠ rb) (hy : y = [61]) :
    Calls Tryz.prog 42 #[ptr rb, .slice (some ⟨b, off, none⟩) n cap, .map (some mb)] w (LineP base rb lo hi (N + 1) w (lineE (lineO p rc.place rc.long x (y :: l)))) := by
  have z7 := h.own.thaw 7
  have z8 := h.own.thaw 8
  have c7 := h.cells.2.2.2.2.2.2.2.1
  have c8 := h.cells.2.2.2.2.2.2.2.2.1
  have c0 := hw 0 x rfl
  rw [Nat.add_zero] at c0
  have hn2 : n = (y :: l).length + 1 := by simpa using hn
  have hn1 : (0 : Int) < (n : Int) := by omega
  have hrb : b ≠ rb := by have := h.low; omega
  have HV : Hid (Ws lo hi w (.slice (some ⟨b, off + 1, none⟩) (n - 1) (cap - 1)) (y :: l)) := Lib.hid ⟨_, _, _, b, off + 1, rfl, by rw [hn2]; rfl, by omega, by omega, fun _ => ⟨rfl, hb1, hb2⟩, fun i z hz => by have := hw (i + 1) z (by simpa using hz); rw [← this]; congr 2; omega, fun z hz => hs z (List.mem_cons_of_mem _ hz)⟩
  have HXL := Lib.hid (hs x List.mem_cons_self)
  have HBW := Lib.hid (World.block_lt_of_cell? w _ c0)
  have HC1 := Lib.hid (hw 1 y rfl)
  have HN := Lib.hid hn2
  have HH := Lib.hid h
  have HLE : Hid ((y :: l).length ≤ 4194304) := Lib.hid (by first | (simp; done) | (simp at hlen ⊢; omega))
  have HX := Lib.hid (And.intro hov (And.intro hN (And.intro hlg (And.intro hL (And.intro hr (And.intro hF (And.intro hm hmb)))))))
  clear hw hs hn hn2 h hov hN hlg hL hr hF hlen hm hmb
  have HY := Lib.hid hy
  clear hy
  go_enter Tryz.func42, Tryz.ntmps42
  go_wp2
  go_region
  generalize hw3 : ((w.setCell ⟨rb, 7, none⟩ (str x)).setCell ⟨rb, 8, none⟩ (.slice (some ⟨b, off + 1, none⟩) (n - 1) (cap - 1))).drew = w3
  have hS := line_st (x := x) HH.out HV.out
  rw [hw3] at hS
  clear hw3 z7 z8 c7 c8 c0
  obtain ⟨hov, hN, hlg, hL, hr, hF, hm, hmb⟩ := HX.out
  have hL3 := laid_grown hL hS.2 hr
  have hm3 := hm.kept hS.2 (by intro e; injection e with e; exact hmb e)
  obtain ⟨fv, hrun, hfv⟩ := known_at (x := x) hm3 HXL.out
  have c7 := hS.1.cells.2.2.2.2.2.2.2.1
  have c8 := hS.1.cells.2.2.2.2.2.2.2.2.1
  simp only at c7 c8
  have hne := nil_ne
  have hnq := nil_eq
  have HB3 := Lib.hid (Beside.of_grown hS.2 HH.out.high)
  obtain ⟨m, hm1⟩ : ∃ m, m = n - 1 := ⟨_, rfl⟩
  rw [← hm1] at c8
  have hm2 : (0 : Int) < (m : Int) := by have := HN.out; simp at this; omega
  have hm4 : 0 < m := by omega
  have c1 := (World.cell?_of_block (w := w) (a := ⟨b, off + 1, none⟩) (hS.2.block b HBW.out (by intro e; injection e with e; exact hrb e))).trans HC1.out
  obtain ⟨s, hs⟩ : ∃ s : ByteArray, s = ⟨y.toArray⟩ := ⟨_, rfl⟩
  have hsd : s.data.toList = y := by rw [hs]
  have e1 : (s.toList == [61]) = true := (eq_lit5 (c := [61]) hsd).trans (by rw [HY.out]; rfl)
  have hx1 : str y = .string s := by rw [hs]
  rw [hx1] at c1
  clear hs hsd hx1
  clear hm1
  have HE : Hid (lineO p rc.place rc.long x (y :: l) = setD p rc.place rc.long false x (y :: l)) := Lib.hid (by unfold lineO; rw [if_pos (by rw [HY.out]; rfl)])
  have hC := set_any x hS.1 hN HLE.out hlg hL3 hr hF.fi rfl
  simp only [hov] at hC
  rw [← HE.out] at hC
  have HS := Lib.hid hS
  clear hS hm hm3 hL hL3 hF hN hlg hov hr hmb
  clear hfv
  have HC := Lib.hid hC
  clear hC
  rcases hO : lineO p rc.place rc.long x (y :: l) with _ | ⟨p2, pl, lg, ov, ws2⟩
  · have HO := Lib.hid hO
    clear hO
    go_wp2_with (first | ((with_reducible refine (HC.out).mono ?_); intro e w4 hM; obtain ⟨rfl, hB⟩ := meth_none hM HO.out; have HB := Lib.hid hB; clear hM hB) | (go_at_call 90; (with_reducible refine (refuse_any _ _).mono ?_); rintro e w5 ⟨rfl, rfl⟩))
    exact ⟨rfl, HB3.out.trans HB.out, by rw [HO.out]; rfl⟩
  · cases ws2 with
    | nil =>
      cases ov
      · have HO := Lib.hid hO
        clear hO
        go_wp2_with (first | ((with_reducible refine (HC.out).mono ?_); intro e w4 hM; obtain ⟨rfl, hB, rc2, a2, D2, hS2, h5, h6, h7⟩ := meth_some hM HO.out; have HB := Lib.hid hB; have g8 := hS2.cells.2.2.2.2.2.2.2.2.1; have g9 := hS2.cells.2.2.2.2.2.2.2.2.2; obtain ⟨A2, cap2, e8⟩ := hS2.wds.none; rw [e8] at g8; rw [h7] at g9; have HS2 := Lib.hid hS2; have H5 := Lib.hid (And.intro h5 (And.intro h6 h7)); clear hM hB hS2 e8 h5 h6 h7) | (go_at_call 90; (with_reducible refine (refuse_any _ _).mono ?_); rintro e w5 ⟨rfl, rfl⟩))
        go_end0
        refine ⟨HB3.out.trans HB.out, ?_⟩
        rw [HO.out]
        exact ⟨rfl, rc2, a2, D2, HS2.out, H5.out.1, H5.out.2.1, H5.out.2.2⟩
      · have HO := Lib.hid hO
        clear hO
        go_wp2_with (first | ((with_reducible refine (HC.out).mono ?_); intro e w4 hM; obtain ⟨rfl, hB, rc2, a2, D2, hS2, h5, h6, h7⟩ := meth_some hM HO.out; have HB := Lib.hid hB; have g8 := hS2.cells.2.2.2.2.2.2.2.2.1; have g9 := hS2.cells.2.2.2.2.2.2.2.2.2; obtain ⟨A2, cap2, e8⟩ := hS2.wds.none; rw [e8] at g8; rw [h7] at g9; have HS2 := Lib.hid hS2; have H5 := Lib.hid (And.intro h5 (And.intro h6 h7)); clear hM hB hS2 e8 h5 h6 h7) | (go_at_call 90; (with_reducible refine (refuse_any _ _).mono ?_); rintro e w5 ⟨rfl, rfl⟩))
        exact ⟨rfl, HB3.out.trans HB.out, by rw [HO.out]; rfl⟩
    | cons z l3 =>
      have HO := Lib.hid hO
      clear hO
      go_wp2_with (first | ((with_reducible refine (HC.out).mono ?_); intro e w4 hM; obtain ⟨rfl, hB, rc2, a2, D2, hS2, h5, h6, h7⟩ := meth_some hM HO.out; have HB := Lib.hid hB; have g8 := hS2.cells.2.2.2.2.2.2.2.2.1; obtain ⟨A2, m2, cap2, e8, hm5⟩ := Ws.some hS2.wds; rw [e8] at g8; clear hM hB hS2 e8 h5 h6 h7) | (go_at_call 90; (with_reducible refine (refuse_any _ _).mono ?_); rintro e w5 ⟨rfl, rfl⟩))
      exact ⟨rfl, HB3.out.trans HB.out, by rw [HO.out]; rfl⟩
end Go.Proofs.YtkmndgjabkjafaaGreatDoor.Rd5
