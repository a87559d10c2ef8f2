/-
  Package show: the heads of a program, laid.
-/
import Derived.Test.YtkmndgjabkjafaaGreatDoorLay3
namespace Go.Proofs.YtkmndgjabkjafaaGreatDoor.Sh6
open Go.RowKit Api Syn WordM Mem Rd5
open LinesM hiding Wd

/-- More lines, laid by a call of its own. -/
theorem Laid.lines {base lb fb : Nat} {w w1 w' : World} {ls : List (List Wd)} {left : Int} {T T2 : List (List Wd)} {e : Ending} (h : Laid base lb fb w ls left T w1) (h2 : LaidP base lb fb w1 (ls ++ T) (left - (wls T : Nat)) T2 e w') : e = .returned (.tuple #[]) ∧ Laid base lb fb w ls left (T ++ T2) w' ∧ KeepO w1 w' := by
  obtain ⟨he, hs, hb, hk⟩ := h2
  refine ⟨he, ⟨?_, h.2.1.trans hb, h.2.2.trans hk⟩, hk⟩
  have e1 : left - (wls T : Nat) - (wls T2 : Nat) = left - (wls (T ++ T2) : Nat) := by rw [wls_app]; omega
  rw [List.append_assoc, e1] at hs
  exact hs
/-- The variables' lines, behind those that are laid. -/
theorem Laid.vars {lo hi : Nat} {base lb fb : Nat} {w w1 : World} {ls : List (List Wd)} {left : Int} {T : List (List Wd)} {v : Value} {l : List Var} (h : Laid base lb fb w ls left T w1) (kw : Wd) (s : ByteArray) (hs : s.data.toList = kw) (hv : Vars lo hi w1 v l) (hh : hi ≤ base) (hl : ls.length + T.length + l.length ≤ 1099511627776) (hT : wls (T ++ l.map (varL kw)) ≤ 1099511627776) (h1 : -1152921504606846976 ≤ left) (h2 : left ≤ 4194304) :
    Calls Tryz.prog 103 #[.string s, v, layV fb lb] w1 fun e w' => e = .returned (.tuple #[]) ∧ Laid base lb fb w ls left (T ++ l.map (varL kw)) w' ∧ KeepO w1 w' := by
  rw [wls_app] at hT
  refine (layVars_any lo hi w1 base lb fb _ _ kw s hs v l hv hh h.1 (by rw [List.length_append]; omega) (by omega) (by omega)).mono ?_
  intro e w9 hp
  exact h.lines hp
/-- An instruction's lines, behind those that are laid. -/
theorem Laid.instr {lo hi : Nat} {base lb fb : Nat} {w w1 : World} {ls : List (List Wd)} {left : Int} {T : List (List Wd)} {cs : List Value} {x : Instr} (h : Laid base lb fb w ls left T w1) (hx : InstrC lo hi w1 cs x) (hh : hi ≤ base) (hL : LaidS w1) (hR : instrR x = true) (hI : instrI x) (hl : ls.length + T.length ≤ 549755813888) (hT : wls (T ++ instrLs x) ≤ 549755813888) (h1 : -576460752303423488 ≤ left) (h2 : left ≤ 4194304) :
    Calls Tryz.prog 106 #[.agg cs.toArray, layV fb lb] w1 fun e w' => e = .returned (.tuple #[]) ∧ Laid base lb fb w ls left (T ++ instrLs x) w' ∧ KeepO w1 w' := by
  rw [wls_app] at hT
  refine (layInstr_any lo hi w1 base lb fb _ _ cs x hx hh hL hR hI h.1 (by rw [List.length_append]; omega) (by omega) (by omega) (by omega)).mono ?_
  intro e w9 hp
  exact h.lines hp
def headLs (q : Prog) : List (List Wd) := (if q.ssa then [[kSsa]] else []) ++ (q.classes.flatMap classLs ++ (q.globals.map (varL kGlobal) ++ q.externs.map externL))
theorem flat_wls {α : Type} (f : α → List (List Wd)) (l : List α) (k : Nat) : wls ((l.take k).flatMap f) ≤ wls (l.flatMap f) := by
  have : wls (l.flatMap f) = wls ((l.take k).flatMap f) + wls ((l.drop k).flatMap f) := by rw [← wls_app, ← List.flatMap_append, List.take_append_drop]
  omega
theorem flat_len {α : Type} (f : α → List (List Wd)) (l : List α) (k : Nat) : ((l.take k).flatMap f).length ≤ (l.flatMap f).length := by
  have : (l.flatMap f).length = ((l.take k).flatMap f).length + ((l.drop k).flatMap f).length := by rw [← List.length_append, ← List.flatMap_append, List.take_append_drop]
  omega
set_option maxRecDepth 100000 in
set_option maxHeartbeats 8000000 in
theorem layHeads_true (lo hi : Nat) (w : World) (base lb fb : Nat) (ls : List (List Wd)) (left : Int) (A1 A2 A3 A4 : Option Addr) (n1 n2 n3 n4 c1 c2 c3 c4 : Nat) (cl : List Class) (gl : List Var) (ex : List Extern) (k1 : Classes lo hi w (.slice A1 n1 c1) cl) (k2 : Vars lo hi w (.slice A2 n2 c2) gl) (k3 : Externs lo hi w (.slice A3 n3 c3) ex) (hh : hi ≤ base) (hE : ∀ e ∈ ex, NumM.In e.n) (hS : LayS base lb fb w ls left) (hl : ls.length ≤ 274877906944) (hN : ([[kSsa]] ++ (cl.flatMap classLs ++ (gl.map (varL kGlobal) ++ ex.map externL))).length ≤ 274877906944) (hT : wls ([[kSsa]] ++ (cl.flatMap classLs ++ (gl.map (varL kGlobal) ++ ex.map externL))) ≤ 274877906944) (h1 : -1152921504606846976 ≤ left) (h2 : left ≤ 4194304) :
    Calls Tryz.prog 52 #[.agg #[.bool true, .slice A1 n1 c1, .slice A2 n2 c2, .slice A3 n3 c3, .slice A4 n4 c4], layV fb lb] w (LaidP base lb fb w ls left ([[kSsa]] ++ (cl.flatMap classLs ++ (gl.map (varL kGlobal) ++ ex.map externL)))) := by
  obtain ⟨W, hW⟩ : ∃ W, w.alloc (.cells #[.bool true, .slice A1 n1 c1, .slice A2 n2 c2, .slice A3 n3 c3, .slice A4 n4 c4] 27) = W := ⟨_, rfl⟩
  have hO : Own W w.heap.size 27 [.bool true, .slice A1 n1 c1, .slice A2 n2 c2, .slice A3 n3 c3, .slice A4 n4 c4] := by rw [← hW]; exact Own.made w _ [.bool true, .slice A1 n1 c1, .slice A2 n2 c2, .slice A3 n3 c3, .slice A4 n4 c4]
  have hbW : Below w.heap.size w W := by rw [← hW]; exact (Below.refl _ _).alloc (Nat.le_refl _) _
  have hbs : base ≤ w.heap.size := Nat.le_trans hS.1 (by obtain ⟨_, _, _, _, _, o, _⟩ := hS; exact Nat.le_of_lt o.lt)
  have HS0 := Lib.hid (Laid.start hS hbW)
  have HO := Lib.hid hO
  have HW := Lib.hid hW
  have HT := Lib.hid hT
  have HN := Lib.hid hN
  have HE := Lib.hid hE
  have HH := Lib.hid hh
  have K2 := Lib.hid k2
  obtain ⟨b1, f1, hn1, hm1, ha1, hc1⟩ := k1.get
  obtain ⟨b3, f3, hn3, hm3, ha3, hc3⟩ := k3.get
  have HC1 := Lib.hid hc1
  have HC3 := Lib.hid hc3
  have HA1 := Lib.hid ha1
  have HA3 := Lib.hid ha3
  have HN1 := Lib.hid hn1
  have HN3 := Lib.hid hn3
  clear hO hW hT hN hE hh k1 k2 k3 hc1 hc3 ha1 ha3 hn1 hn3 hbW hbs hS
  go_enter Tryz.func52, Tryz.ntmps52
  have hr := made_row (base := base) (g := w.heap.size + 1) (w := W) [.string ⟨#[115, 115, 97]⟩] [kSsa] rfl (by rw [← HW.out]; simp) HS0.out.size (by simp [LinesM.strs, kSsa]) (by simp)
  have QL := Lib.hid (Laid.more (HS0.out.below ((Below.refl _ _).alloc (Nat.le_refl _) (.cells #[.string ⟨#[115, 115, 97]⟩] 9))) hr (by simp; omega) (by have := HT.out; have h3 := wls_pre [[kSsa]] (cl.flatMap classLs ++ (gl.map (varL kGlobal) ++ ex.map externL)); simp only [List.nil_append]; omega) h1 h2)
  have HO1 := Lib.hid (HO.out.alloc (.cells #[.string ⟨#[115, 115, 97]⟩] 9))
  clear hr
  go_wp2_with fail
  rw [HW.out]
  refine QL.out.mono ?_
  rintro e w7 ⟨rfl, hp, hk7⟩
  have HP7 := Lib.hid hp
  have HO7 := Lib.hid (hk7 _ _ _ HO1.out (by decide) (by decide) (by decide))
  have g1 := HO7.out.cell 1
  simp only [List.getElem?_cons_succ, List.getElem?_cons_zero] at g1
  clear hp hk7
  go_wp2
  clear g1
  go_loopw [16] (fun i wr => ∃ k : Nat, k ≤ n1 ∧ i = .int .i64 k ∧ Hid (Laid base lb fb w ls left ([[kSsa]] ++ (cl.take k).flatMap classLs) wr) ∧ Hid (Own wr w.heap.size 27 [.bool true, .slice A1 n1 c1, .slice A2 n2 c2, .slice A3 n3 c3, .slice A4 n4 c4])) (fun i _ => n1 - (intOf i).toNat)
  case atStart => exact ⟨0, Nat.zero_le _, rfl, Lib.hid (by simpa using HP7.out), HO7⟩
  case round =>
  obtain ⟨k, hk, rfl, HP, HOr⟩ := hrel
  by_cases hlt : k < n1
  · obtain ⟨⟨nm, fds⟩, hf⟩ : ∃ y, cl[k]? = some y := ⟨_, List.getElem?_eq_getElem (by have := HN1.out; omega)⟩
    obtain ⟨rfl, _, hb1⟩ := HA1.out (by omega)
    obtain ⟨cs, _, q1, u, rfl, hv⟩ := HC1.out k _ hf
    obtain ⟨B4, c4, rfl⟩ := hv.form
    simp only at q1 hv
    obtain ⟨m0, m1⟩ := at2 (cells_later q1 HP.out.2.1 (show b1 < base by have := HH.out; omega))
    have hbx : Below wr.heap.size wr ((wr.alloc (.cells #[str nm, .slice B4 fds.length c4] 78)).alloc (.cells #[.string ⟨#[99, 108, 97, 115, 115]⟩, str nm] 9)) := ((Below.refl _ _).alloc (Nat.le_refl _) _).alloc (by simp) _
    have hr := made_row (base := base) (g := wr.heap.size + 1) (w := wr.alloc (.cells #[str nm, .slice B4 fds.length c4] 78)) [.string ⟨#[99, 108, 97, 115, 115]⟩, str nm] [kClass, nm] rfl (by simp) (by have := HP.out.size; simp; omega) (by simp [LinesM.strs, kClass]) (by simp)
    have e1 : (cl.take (k + 1)).flatMap classLs = (cl.take k).flatMap classLs ++ classLs ⟨nm, fds⟩ := by rw [LinesM.take_next hf, List.flatMap_append]; simp
    have hw1 := flat_wls classLs cl (k + 1)
    have hw2 := flat_len classLs cl (k + 1)
    rw [e1, wls_app] at hw1
    rw [e1, List.length_append] at hw2
    have hT' := HT.out
    have hN' := HN.out
    rw [wls_app, wls_app] at hT'
    simp only [List.length_append, List.length_cons, List.length_nil] at hN'
    have hcl : wls (classLs ⟨nm, fds⟩) = wls [[kClass, nm]] + wls (fds.map (varL kField)) := by unfold classLs; rw [← wls_app]; rfl
    have hcn : (classLs ⟨nm, fds⟩).length = 1 + fds.length := by unfold classLs; simp; omega
    have QL := Lib.hid (Laid.more (v := .slice (some ⟨wr.heap.size + 1, 0, none⟩) 2 2) (HP.out.below hbx) hr (by simp only [List.length_append, List.length_cons, List.length_nil]; omega) (by rw [wls_app, wls_app]; omega) h1 h2)
    have HBX := Lib.hid ((Own.made wr 78 [str nm, .slice B4 fds.length c4]).alloc (.cells #[.string ⟨#[99, 108, 97, 115, 115]⟩, str nm] 9))
    have HO8 := Lib.hid (HOr.out.below hbx HOr.out.lt)
    have HV := Lib.hid hv
    have HE1 := Lib.hid e1
    have HLN : Hid (ls.length + (([[kSsa]] ++ (cl.take k).flatMap classLs) ++ [[kClass, nm]]).length + fds.length ≤ 1099511627776) := Lib.hid (by simp only [List.length_append, List.length_cons, List.length_nil]; omega)
    have HWL : Hid (wls ((([[kSsa]] ++ (cl.take k).flatMap classLs) ++ [[kClass, nm]]) ++ fds.map (varL kField)) ≤ 1099511627776) := Lib.hid (by rw [wls_app, wls_app, wls_app]; omega)
    clear hbx hr e1 hw1 hw2 hT' hN' hcl hcn hv hf q1
    go_wp2_with (first
      | ((refine QL.out.mono ?_); rintro e w9 ⟨rfl, hp, hk9⟩; have HL9 := Lib.hid hp; have HB9 := hk9 _ _ _ HBX.out (by decide) (by decide) (by decide); have HO9 := Lib.hid (hk9 _ _ _ HO8.out (by decide) (by decide) (by decide)); have p1 := HB9.cell 1; simp only [List.getElem?_cons_succ, List.getElem?_cons_zero] at p1; clear hp hk9 HB9)
      | ((refine (Laid.vars HL9.out kField ⟨#[102, 105, 101, 108, 100]⟩ rfl (Vars.move (Still.of_below (HL9.out.2.1.mono HH.out)) HV.out) HH.out HLN.out HWL.out h1 h2).mono ?_); rintro e w11 ⟨rfl, hp, hk11⟩; have HP11 := Lib.hid hp; have HO11 := Lib.hid (hk11 _ _ _ HO9.out (by decide) (by decide) (by decide)); clear hp hk11))
    go_roundw
    case rel =>
      refine ⟨k + 1, by omega, by go_num, Lib.hid ?_, HO11⟩
      have h9 := HP11.out
      rw [HE1.out]
      simpa [classLs] using h9
    case measure => simp [intOf]; omega
  · have hkn : cl.take k = cl := List.take_of_length_le (by have := HN1.out; omega)
    rw [hkn] at HP
    have g2 := HOr.out.cell 2
    have g3 := HOr.out.cell 3
    simp only [List.getElem?_cons_succ, List.getElem?_cons_zero] at g2 g3
    have HV2 := Lib.hid (Vars.move (Still.of_below (HP.out.2.1.mono HH.out)) K2.out)
    have hn' := HN.out
    have ht' := HT.out
    simp only [List.length_append, List.length_map] at hn'
    rw [wls_app, wls_app, wls_app] at ht'
    have HLN2 : Hid (ls.length + ([[kSsa]] ++ cl.flatMap classLs).length + gl.length ≤ 1099511627776) := Lib.hid (by simp only [List.length_append]; omega)
    have HWL2 : Hid (wls (([[kSsa]] ++ cl.flatMap classLs) ++ gl.map (varL kGlobal)) ≤ 1099511627776) := Lib.hid (by rw [wls_app, wls_app]; omega)
    clear hn' ht' hkn
    go_wp2_with ((refine (Laid.vars HP.out kGlobal ⟨#[103, 108, 111, 98, 97, 108]⟩ rfl HV2.out HH.out HLN2.out HWL2.out h1 h2).mono ?_); rintro e w13 ⟨rfl, hp, hk13⟩; have HP13 := Lib.hid hp; have HO13 := Lib.hid (hk13 _ _ _ HOr.out (by decide) (by decide) (by decide)); clear g2 g3; have g3 := HO13.out.cell 3; simp only [List.getElem?_cons_succ, List.getElem?_cons_zero] at g3; clear hp hk13)
    clear g3 hlt hk
    go_loopw [37] (fun i wr => ∃ k : Nat, k ≤ n3 ∧ i = .int .i64 k ∧ Hid (Laid base lb fb w ls left ((([[kSsa]] ++ cl.flatMap classLs) ++ gl.map (varL kGlobal)) ++ (ex.take k).map externL) wr)) (fun i _ => n3 - (intOf i).toNat)
    case atStart => exact ⟨0, Nat.zero_le _, rfl, Lib.hid (by simpa using HP13.out)⟩
    case round =>
    obtain ⟨k, hk, rfl, HQ⟩ := hrel
    by_cases hlt : k < n3
    · obtain ⟨⟨nm, ne⟩, hf⟩ : ∃ y, ex[k]? = some y := ⟨_, List.getElem?_eq_getElem (by have := HN3.out; omega)⟩
      obtain ⟨rfl, _, hb1⟩ := HA3.out (by omega)
      obtain ⟨cs, _, q1, rfl⟩ := HC3.out k _ hf
      obtain ⟨m0, m1⟩ := at2 (cells_later q1 HQ.out.2.1 (show b3 < base by have := HH.out; omega))
      simp only at m0 m1
      have hIn := HE.out _ (List.mem_of_getElem? hf)
      obtain ⟨sp, hsp⟩ : ∃ s : ByteArray, s.data.toList = NumM.dec ne := ⟨⟨(NumM.dec ne).toArray⟩, rfl⟩
      have QN := Lib.hid (num_as ne hIn sp hsp)
      have HSP := Lib.hid hsp
      have hn' := HN.out
      have ht' := HT.out
      simp only [List.length_append, List.length_map] at hn'
      rw [wls_app, wls_app, wls_app] at ht'
      have e1 : ((([[kSsa]] ++ cl.flatMap classLs) ++ gl.map (varL kGlobal)) ++ (ex.take k).map externL) ++ [[kExtern, nm, NumM.dec ne]] = (([[kSsa]] ++ cl.flatMap classLs) ++ gl.map (varL kGlobal)) ++ (ex.take (k + 1)).map externL := by rw [LinesM.take_next hf, List.map_append, ← List.append_assoc]; rfl
      have hw1 := wls_take externL ex (k + 1)
      have HT2 : Hid (wls (((([[kSsa]] ++ cl.flatMap classLs) ++ gl.map (varL kGlobal)) ++ (ex.take k).map externL) ++ [[kExtern, nm, NumM.dec ne]]) ≤ 1099511627776) := Lib.hid (by rw [e1, wls_app, wls_app, wls_app]; omega)
      have HE1 := Lib.hid e1
      have hl2 : ls.length + ((([[kSsa]] ++ cl.flatMap classLs) ++ gl.map (varL kGlobal)) ++ (ex.take k).map externL).length ≤ 1099511627776 := by simp only [List.length_append, List.length_map, List.length_take]; omega
      have HLN := Lib.hid hl2
      have HBX := Lib.hid (Own.made wr 80 [str nm, i64 ne])
      have HX := Lib.hid ((Below.refl wr.heap.size wr).alloc (Nat.le_refl _) (.cells #[str nm, i64 ne] 80))
      clear hn' ht' e1 hw1 hl2 hIn hsp hf q1
      go_wp2_with fail
      go_region_law (first
        | (go_simp; go_at_call 104; (with_reducible refine (QN.out _).mono ?_); rintro e w5 ⟨rfl, hb5⟩; have hb7 := (Below.refl _ _).drew.trans hb5; have p0 := own_hold6 HBX.out hb7 (by simp) 0 rfl; have HL5 := Lib.hid (HQ.out.below (HX.out.trans (hb7.mono (by simp)))); have hr := made_row (base := base) (g := w5.heap.size) (w := w5) [.string ⟨#[101, 120, 116, 101, 114, 110]⟩, str nm, .string sp] [kExtern, nm, NumM.dec ne] rfl rfl HL5.out.size (by simp [LinesM.strs, ← HSP.out, kExtern]) (by simp); have QL := Lib.hid (Laid.more (v := .slice (some ⟨w5.heap.size, 0, none⟩) 3 3) (HL5.out.below ((Below.refl _ _).alloc (Nat.le_refl _) _)) hr HLN.out HT2.out h1 h2); clear hr hb5 hb7)
        | (go_simp; (refine QL.out.mono ?_); rintro e w15 ⟨rfl, hp, _⟩; have HP15 := Lib.hid hp; clear hp))
      all_goals
        go_wp2_with fail
        go_roundw
        case rel => exact ⟨k + 1, by omega, by go_num, Lib.hid (by rw [← HE1.out]; exact HP15.out)⟩
        case measure => simp [intOf]; omega
    · have hkn : ex.take k = ex := List.take_of_length_le (by have := HN3.out; omega)
      rw [hkn] at HQ
      go_wp2
      go_end0
      refine ⟨rfl, ?_⟩
      have h9 := HQ.out
      have e : (([[kSsa]] ++ cl.flatMap classLs) ++ gl.map (varL kGlobal)) ++ ex.map externL = [[kSsa]] ++ (cl.flatMap classLs ++ (gl.map (varL kGlobal) ++ ex.map externL)) := by simp [List.append_assoc]
      rw [e] at h9
      exact h9
set_option maxRecDepth 100000 in
set_option maxHeartbeats 8000000 in
theorem layHeads_false (lo hi : Nat) (w : World) (base lb fb : Nat) (ls : List (List Wd)) (left : Int) (A1 A2 A3 A4 : Option Addr) (n1 n2 n3 n4 c1 c2 c3 c4 : Nat) (cl : List Class) (gl : List Var) (ex : List Extern) (k1 : Classes lo hi w (.slice A1 n1 c1) cl) (k2 : Vars lo hi w (.slice A2 n2 c2) gl) (k3 : Externs lo hi w (.slice A3 n3 c3) ex) (hh : hi ≤ base) (hE : ∀ e ∈ ex, NumM.In e.n) (hS : LayS base lb fb w ls left) (hl : ls.length ≤ 274877906944) (hN : ([] ++ (cl.flatMap classLs ++ (gl.map (varL kGlobal) ++ ex.map externL))).length ≤ 274877906944) (hT : wls ([] ++ (cl.flatMap classLs ++ (gl.map (varL kGlobal) ++ ex.map externL))) ≤ 274877906944) (h1 : -1152921504606846976 ≤ left) (h2 : left ≤ 4194304) :
    Calls Tryz.prog 52 #[.agg #[.bool false, .slice A1 n1 c1, .slice A2 n2 c2, .slice A3 n3 c3, .slice A4 n4 c4], layV fb lb] w (LaidP base lb fb w ls left ([] ++ (cl.flatMap classLs ++ (gl.map (varL kGlobal) ++ ex.map externL)))) := by
  obtain ⟨W, hW⟩ : ∃ W, w.alloc (.cells #[.bool false, .slice A1 n1 c1, .slice A2 n2 c2, .slice A3 n3 c3, .slice A4 n4 c4] 27) = W := ⟨_, rfl⟩
  have hO : Own W w.heap.size 27 [.bool false, .slice A1 n1 c1, .slice A2 n2 c2, .slice A3 n3 c3, .slice A4 n4 c4] := by rw [← hW]; exact Own.made w _ [.bool false, .slice A1 n1 c1, .slice A2 n2 c2, .slice A3 n3 c3, .slice A4 n4 c4]
  have hbW : Below w.heap.size w W := by rw [← hW]; exact (Below.refl _ _).alloc (Nat.le_refl _) _
  have hbs : base ≤ w.heap.size := Nat.le_trans hS.1 (by obtain ⟨_, _, _, _, _, o, _⟩ := hS; exact Nat.le_of_lt o.lt)
  have HS0 := Lib.hid (Laid.start hS hbW)
  have HO := Lib.hid hO
  have HW := Lib.hid hW
  have HT := Lib.hid hT
  have HN := Lib.hid hN
  have HE := Lib.hid hE
  have HH := Lib.hid hh
  have K2 := Lib.hid k2
  obtain ⟨b1, f1, hn1, hm1, ha1, hc1⟩ := k1.get
  obtain ⟨b3, f3, hn3, hm3, ha3, hc3⟩ := k3.get
  have HC1 := Lib.hid hc1
  have HC3 := Lib.hid hc3
  have HA1 := Lib.hid ha1
  have HA3 := Lib.hid ha3
  have HN1 := Lib.hid hn1
  have HN3 := Lib.hid hn3
  clear hO hW hT hN hE hh k1 k2 k3 hc1 hc3 ha1 ha3 hn1 hn3 hbW hbs hS
  go_enter Tryz.func52, Tryz.ntmps52
  have HP7 := HS0
  have HO7 := HO
  have g1 := HO7.out.cell 1
  simp only [List.getElem?_cons_succ, List.getElem?_cons_zero] at g1
  go_wp2_with fail
  rw [HW.out]
  go_wp2
  clear g1
  go_loopw [16] (fun i wr => ∃ k : Nat, k ≤ n1 ∧ i = .int .i64 k ∧ Hid (Laid base lb fb w ls left ([] ++ (cl.take k).flatMap classLs) wr) ∧ Hid (Own wr w.heap.size 27 [.bool false, .slice A1 n1 c1, .slice A2 n2 c2, .slice A3 n3 c3, .slice A4 n4 c4])) (fun i _ => n1 - (intOf i).toNat)
  case atStart => exact ⟨0, Nat.zero_le _, rfl, Lib.hid (by simpa using HP7.out), HO7⟩
  case round =>
  obtain ⟨k, hk, rfl, HP, HOr⟩ := hrel
  by_cases hlt : k < n1
  · obtain ⟨⟨nm, fds⟩, hf⟩ : ∃ y, cl[k]? = some y := ⟨_, List.getElem?_eq_getElem (by have := HN1.out; omega)⟩
    obtain ⟨rfl, _, hb1⟩ := HA1.out (by omega)
    obtain ⟨cs, _, q1, u, rfl, hv⟩ := HC1.out k _ hf
    obtain ⟨B4, c4, rfl⟩ := hv.form
    simp only at q1 hv
    obtain ⟨m0, m1⟩ := at2 (cells_later q1 HP.out.2.1 (show b1 < base by have := HH.out; omega))
    have hbx : Below wr.heap.size wr ((wr.alloc (.cells #[str nm, .slice B4 fds.length c4] 78)).alloc (.cells #[.string ⟨#[99, 108, 97, 115, 115]⟩, str nm] 9)) := ((Below.refl _ _).alloc (Nat.le_refl _) _).alloc (by simp) _
    have hr := made_row (base := base) (g := wr.heap.size + 1) (w := wr.alloc (.cells #[str nm, .slice B4 fds.length c4] 78)) [.string ⟨#[99, 108, 97, 115, 115]⟩, str nm] [kClass, nm] rfl (by simp) (by have := HP.out.size; simp; omega) (by simp [LinesM.strs, kClass]) (by simp)
    have e1 : (cl.take (k + 1)).flatMap classLs = (cl.take k).flatMap classLs ++ classLs ⟨nm, fds⟩ := by rw [LinesM.take_next hf, List.flatMap_append]; simp
    have hw1 := flat_wls classLs cl (k + 1)
    have hw2 := flat_len classLs cl (k + 1)
    rw [e1, wls_app] at hw1
    rw [e1, List.length_append] at hw2
    have hT' := HT.out
    have hN' := HN.out
    rw [wls_app, wls_app] at hT'
    simp only [List.length_append, List.length_nil] at hN'
    have hcl : wls (classLs ⟨nm, fds⟩) = wls [[kClass, nm]] + wls (fds.map (varL kField)) := by unfold classLs; rw [← wls_app]; rfl
    have hcn : (classLs ⟨nm, fds⟩).length = 1 + fds.length := by unfold classLs; simp; omega
    have QL := Lib.hid (Laid.more (v := .slice (some ⟨wr.heap.size + 1, 0, none⟩) 2 2) (HP.out.below hbx) hr (by simp only [List.length_append, List.length_nil]; omega) (by rw [wls_app, wls_app]; omega) h1 h2)
    have HBX := Lib.hid ((Own.made wr 78 [str nm, .slice B4 fds.length c4]).alloc (.cells #[.string ⟨#[99, 108, 97, 115, 115]⟩, str nm] 9))
    have HO8 := Lib.hid (HOr.out.below hbx HOr.out.lt)
    have HV := Lib.hid hv
    have HE1 := Lib.hid e1
    have HLN : Hid (ls.length + (([] ++ (cl.take k).flatMap classLs) ++ [[kClass, nm]]).length + fds.length ≤ 1099511627776) := Lib.hid (by simp only [List.length_append, List.length_cons, List.length_nil]; omega)
    have HWL : Hid (wls ((([] ++ (cl.take k).flatMap classLs) ++ [[kClass, nm]]) ++ fds.map (varL kField)) ≤ 1099511627776) := Lib.hid (by rw [wls_app, wls_app, wls_app]; omega)
    clear hbx hr e1 hw1 hw2 hT' hN' hcl hcn hv hf q1
    go_wp2_with (first
      | ((refine QL.out.mono ?_); rintro e w9 ⟨rfl, hp, hk9⟩; have HL9 := Lib.hid hp; have HB9 := hk9 _ _ _ HBX.out (by decide) (by decide) (by decide); have HO9 := Lib.hid (hk9 _ _ _ HO8.out (by decide) (by decide) (by decide)); have p1 := HB9.cell 1; simp only [List.getElem?_cons_succ, List.getElem?_cons_zero] at p1; clear hp hk9 HB9)
      | ((refine (Laid.vars HL9.out kField ⟨#[102, 105, 101, 108, 100]⟩ rfl (Vars.move (Still.of_below (HL9.out.2.1.mono HH.out)) HV.out) HH.out HLN.out HWL.out h1 h2).mono ?_); rintro e w11 ⟨rfl, hp, hk11⟩; have HP11 := Lib.hid hp; have HO11 := Lib.hid (hk11 _ _ _ HO9.out (by decide) (by decide) (by decide)); clear hp hk11))
    go_roundw
    case rel =>
      refine ⟨k + 1, by omega, by go_num, Lib.hid ?_, HO11⟩
      have h9 := HP11.out
      rw [HE1.out]
      simpa [classLs] using h9
    case measure => simp [intOf]; omega
  · have hkn : cl.take k = cl := List.take_of_length_le (by have := HN1.out; omega)
    rw [hkn] at HP
    have g2 := HOr.out.cell 2
    have g3 := HOr.out.cell 3
    simp only [List.getElem?_cons_succ, List.getElem?_cons_zero] at g2 g3
    have HV2 := Lib.hid (Vars.move (Still.of_below (HP.out.2.1.mono HH.out)) K2.out)
    have hn' := HN.out
    have ht' := HT.out
    simp only [List.length_append, List.length_map] at hn'
    rw [wls_app, wls_app, wls_app] at ht'
    have HLN2 : Hid (ls.length + ([] ++ cl.flatMap classLs).length + gl.length ≤ 1099511627776) := Lib.hid (by simp only [List.length_append]; omega)
    have HWL2 : Hid (wls (([] ++ cl.flatMap classLs) ++ gl.map (varL kGlobal)) ≤ 1099511627776) := Lib.hid (by rw [wls_app, wls_app]; omega)
    clear hn' ht' hkn
    go_wp2_with ((refine (Laid.vars HP.out kGlobal ⟨#[103, 108, 111, 98, 97, 108]⟩ rfl HV2.out HH.out HLN2.out HWL2.out h1 h2).mono ?_); rintro e w13 ⟨rfl, hp, hk13⟩; have HP13 := Lib.hid hp; have HO13 := Lib.hid (hk13 _ _ _ HOr.out (by decide) (by decide) (by decide)); clear g2 g3; have g3 := HO13.out.cell 3; simp only [List.getElem?_cons_succ, List.getElem?_cons_zero] at g3; clear hp hk13)
    clear g3 hlt hk
    go_loopw [37] (fun i wr => ∃ k : Nat, k ≤ n3 ∧ i = .int .i64 k ∧ Hid (Laid base lb fb w ls left ((([] ++ cl.flatMap classLs) ++ gl.map (varL kGlobal)) ++ (ex.take k).map externL) wr)) (fun i _ => n3 - (intOf i).toNat)
    case atStart => exact ⟨0, Nat.zero_le _, rfl, Lib.hid (by simpa using HP13.out)⟩
    case round =>
    obtain ⟨k, hk, rfl, HQ⟩ := hrel
    by_cases hlt : k < n3
    · obtain ⟨⟨nm, ne⟩, hf⟩ : ∃ y, ex[k]? = some y := ⟨_, List.getElem?_eq_getElem (by have := HN3.out; omega)⟩
      obtain ⟨rfl, _, hb1⟩ := HA3.out (by omega)
      obtain ⟨cs, _, q1, rfl⟩ := HC3.out k _ hf
      obtain ⟨m0, m1⟩ := at2 (cells_later q1 HQ.out.2.1 (show b3 < base by have := HH.out; omega))
      simp only at m0 m1
      have hIn := HE.out _ (List.mem_of_getElem? hf)
      obtain ⟨sp, hsp⟩ : ∃ s : ByteArray, s.data.toList = NumM.dec ne := ⟨⟨(NumM.dec ne).toArray⟩, rfl⟩
      have QN := Lib.hid (num_as ne hIn sp hsp)
      have HSP := Lib.hid hsp
      have hn' := HN.out
      have ht' := HT.out
      simp only [List.length_append, List.length_map] at hn'
      rw [wls_app, wls_app, wls_app] at ht'
      have e1 : ((([] ++ cl.flatMap classLs) ++ gl.map (varL kGlobal)) ++ (ex.take k).map externL) ++ [[kExtern, nm, NumM.dec ne]] = (([] ++ cl.flatMap classLs) ++ gl.map (varL kGlobal)) ++ (ex.take (k + 1)).map externL := by rw [LinesM.take_next hf, List.map_append, ← List.append_assoc]; rfl
      have hw1 := wls_take externL ex (k + 1)
      have HT2 : Hid (wls (((([] ++ cl.flatMap classLs) ++ gl.map (varL kGlobal)) ++ (ex.take k).map externL) ++ [[kExtern, nm, NumM.dec ne]]) ≤ 1099511627776) := Lib.hid (by rw [e1, wls_app, wls_app, wls_app]; omega)
      have HE1 := Lib.hid e1
      have hl2 : ls.length + ((([] ++ cl.flatMap classLs) ++ gl.map (varL kGlobal)) ++ (ex.take k).map externL).length ≤ 1099511627776 := by simp only [List.length_append, List.length_map, List.length_take]; omega
      have HLN := Lib.hid hl2
      have HBX := Lib.hid (Own.made wr 80 [str nm, i64 ne])
      have HX := Lib.hid ((Below.refl wr.heap.size wr).alloc (Nat.le_refl _) (.cells #[str nm, i64 ne] 80))
      clear hn' ht' e1 hw1 hl2 hIn hsp hf q1
      go_wp2_with fail
      go_region_law (first
        | (go_simp; go_at_call 104; (with_reducible refine (QN.out _).mono ?_); rintro e w5 ⟨rfl, hb5⟩; have hb7 := (Below.refl _ _).drew.trans hb5; have p0 := own_hold6 HBX.out hb7 (by simp) 0 rfl; have HL5 := Lib.hid (HQ.out.below (HX.out.trans (hb7.mono (by simp)))); have hr := made_row (base := base) (g := w5.heap.size) (w := w5) [.string ⟨#[101, 120, 116, 101, 114, 110]⟩, str nm, .string sp] [kExtern, nm, NumM.dec ne] rfl rfl HL5.out.size (by simp [LinesM.strs, ← HSP.out, kExtern]) (by simp); have QL := Lib.hid (Laid.more (v := .slice (some ⟨w5.heap.size, 0, none⟩) 3 3) (HL5.out.below ((Below.refl _ _).alloc (Nat.le_refl _) _)) hr HLN.out HT2.out h1 h2); clear hr hb5 hb7)
        | (go_simp; (refine QL.out.mono ?_); rintro e w15 ⟨rfl, hp, _⟩; have HP15 := Lib.hid hp; clear hp))
      all_goals
        go_wp2_with fail
        go_roundw
        case rel => exact ⟨k + 1, by omega, by go_num, Lib.hid (by rw [← HE1.out]; exact HP15.out)⟩
        case measure => simp [intOf]; omega
    · have hkn : ex.take k = ex := List.take_of_length_le (by have := HN3.out; omega)
      rw [hkn] at HQ
      go_wp2
      go_end0
      refine ⟨rfl, ?_⟩
      have h9 := HQ.out
      have e : (([] ++ cl.flatMap classLs) ++ gl.map (varL kGlobal)) ++ ex.map externL = [] ++ (cl.flatMap classLs ++ (gl.map (varL kGlobal) ++ ex.map externL)) := by simp [List.append_assoc]
      rw [e] at h9
      exact h9
/-- The heads of a program, laid. -/
theorem layHeads_any (lo hi : Nat) (w : World) (base lb fb : Nat) (ls : List (List Wd)) (left : Int) (cs : List Value) (q : Prog) (hp : ProgC lo hi w cs q) (hh : hi ≤ base) (hE : ∀ e ∈ q.externs, NumM.In e.n) (hS : LayS base lb fb w ls left) (hl : ls.length ≤ 274877906944) (hN : (headLs q).length ≤ 274877906944) (hT : wls (headLs q) ≤ 274877906944) (h1 : -1152921504606846976 ≤ left) (h2 : left ≤ 4194304) :
    Calls Tryz.prog 52 #[.agg cs.toArray, layV fb lb] w (LaidP base lb fb w ls left (headLs q)) := by
  obtain ⟨s, cl, gl, ex, fu⟩ := q
  obtain ⟨u1, u2, u3, u4, rfl, k1, k2, k3, k4⟩ := hp
  simp only at k1 k2 k3 k4 hE ⊢
  obtain ⟨B1, c1, rfl⟩ := k1.form
  obtain ⟨B2, c2, rfl⟩ := k2.form
  obtain ⟨B3, c3, rfl⟩ := k3.form
  obtain ⟨B4, c4, rfl⟩ := k4.form
  cases s with
  | true => exact layHeads_true lo hi w base lb fb ls left B1 B2 B3 B4 _ _ _ _ c1 c2 c3 c4 cl gl ex k1 k2 k3 hh hE hS hl hN hT h1 h2
  | false => exact layHeads_false lo hi w base lb fb ls left B1 B2 B3 B4 _ _ _ _ c1 c2 c3 c4 cl gl ex k1 k2 k3 hh hE hS hl hN hT h1 h2
end Go.Proofs.YtkmndgjabkjafaaGreatDoor.Sh6
