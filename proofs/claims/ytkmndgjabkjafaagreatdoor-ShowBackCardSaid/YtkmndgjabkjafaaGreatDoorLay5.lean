/-
  Package show: the lines of a function, laid.
-/
import Derived.Test.YtkmndgjabkjafaaGreatDoorLay4
import Derived.Test.YtkmndgjabkjafaaGreatDoorWords9
import Derived.Test.YtkmndgjabkjafaaGreatDoorShowT
namespace Go.Proofs.YtkmndgjabkjafaaGreatDoor.Sh6
open Go.RowKit Api Syn WordM Mem Rd5
open LinesM hiding Wd

/-- Behind it a function's lines T are laid, or so many of them that the text is full. -/
def FuncP (base lb fb : Nat) (w : World) (ls : List (List Wd)) (left : Int) (T : List (List Wd)) (e : Ending) (w' : World) : Prop :=
  e = .returned (.tuple #[]) ∧ ∃ T2, wls T2 ≤ wls T ∧ T2.length ≤ T.length ∧ Laid base lb fb w ls left T2 w' ∧ (T2 = T ∨ left - (wls T2 : Nat) < 0)
theorem Laid.left {base lb fb : Nat} {w w' : World} {ls : List (List Wd)} {left : Int} {T : List (List Wd)} (h : Laid base lb fb w ls left T w') : Own w' fb 3 [i64 (left - (wls T : Nat))] := h.1.2.2.1
theorem pre_w {A B : List (List Wd)} (h : A <+: B) : wls A ≤ wls B := by obtain ⟨t, rfl⟩ := h; rw [wls_app]; omega
theorem pre_n {A B : List (List Wd)} (h : A <+: B) : A.length ≤ B.length := h.length_le
theorem flat_pre {α : Type} (f : α → List (List Wd)) {l : List α} {k : Nat} {x : α} (h : l[k]? = some x) : (l.take k).flatMap f ++ f x <+: l.flatMap f := by
  obtain ⟨hk, e⟩ := List.getElem?_eq_some_iff.1 h
  have h2 : l = l.take k ++ x :: l.drop (k + 1) := by rw [← e]; simp
  refine ⟨(l.drop (k + 1)).flatMap f, ?_⟩
  conv => rhs; rw [h2]
  simp
theorem map_pre {α : Type} (f : α → List Wd) {l : List α} {k : Nat} {x : α} (h : l[k]? = some x) : (l.take k).map f ++ [f x] <+: l.map f := by
  obtain ⟨hk, e⟩ := List.getElem?_eq_some_iff.1 h
  have h2 : l = l.take k ++ x :: l.drop (k + 1) := by rw [← e]; simp
  refine ⟨(l.drop (k + 1)).map f, ?_⟩
  conv => rhs; rw [h2]
  simp
theorem ahead_pre {A B : List (List Wd)} (C : List (List Wd)) (h : A <+: B) : C ++ A <+: C ++ B := by obtain ⟨t, rfl⟩ := h; exact ⟨t, by simp⟩
section
variable (P : List (List Wd)) (bn : Wd) (phs : List Phi) (cod : List Instr) (t : Api.Term)
theorem blk1 : P ++ [[kBlock, bn]] <+: P ++ blockLs ⟨bn, phs, cod, t⟩ := ahead_pre P ⟨_, rfl⟩
theorem blk2 {j : Nat} {p : Phi} (h : phs[j]? = some p) : ((P ++ [[kBlock, bn]]) ++ (phs.take j).map phiL) ++ [phiL p] <+: P ++ blockLs ⟨bn, phs, cod, t⟩ := by
  obtain ⟨r, hr⟩ := map_pre phiL h
  exact ⟨r ++ (cod.flatMap instrLs ++ finLs t), by unfold blockLs; simp only; rw [← hr]; simp⟩
theorem blk3 {j : Nat} {i : Instr} (h : cod[j]? = some i) : (((P ++ [[kBlock, bn]]) ++ phs.map phiL) ++ (cod.take j).flatMap instrLs) ++ instrLs i <+: P ++ blockLs ⟨bn, phs, cod, t⟩ := by
  obtain ⟨r, hr⟩ := flat_pre instrLs h
  exact ⟨r ++ finLs t, by unfold blockLs; simp only; rw [← hr]; simp⟩
theorem blk4 (h : finLs t = [endL t]) : (((P ++ [[kBlock, bn]]) ++ phs.map phiL) ++ cod.flatMap instrLs) ++ [endL t] = P ++ blockLs ⟨bn, phs, cod, t⟩ := by
  unfold blockLs; simp only; rw [h]; simp
end
theorem block_parts {b : Api.Block} (h : blockR b = true) : (∀ p ∈ b.phis, phiR p = true) ∧ (∀ i ∈ b.code, instrR i = true) ∧ finR b.fin = true := by
  unfold blockR allR at h
  simp only [Bool.and_eq_true, List.all_eq_true] at h
  exact ⟨h.2.1.2, h.2.2.1.2, h.2.2.2⟩
theorem phi_ins {p : Phi} (h : phiR p = true) : p.ins.length ≤ 1048576 := by
  unfold phiR allR at h
  simp only [Bool.and_eq_true, decide_eq_true_eq] at h
  omega
abbrev headF (nm rs : Wd) (ps vs : List Var) : List (List Wd) := ([] ++ [[kFunc, nm, rs]]) ++ ps.map (varL kParam) ++ vs.map (varL kVar)
theorem head_func (nm rs : Wd) (ps vs : List Var) (bl : List Api.Block) : funcLs ⟨nm, rs, ps, vs, bl⟩ = headF nm rs ps vs ++ bl.flatMap blockLs := by unfold funcLs headF; simp
set_option maxRecDepth 100000 in
set_option maxHeartbeats 16000000 in
theorem layFunc_any (lo hi : Nat) (w : World) (base lb fb : Nat) (ls : List (List Wd)) (left : Int) (cs : List Value) (x : Api.Func) (hx : FuncC lo hi w cs x) (hh : hi ≤ base) (hL : LaidS w) (hg0 : 1 < base) (hR : funcR x = true) (hI : funcI x) (hS : LayS base lb fb w ls left) (hl : ls.length ≤ 137438953472) (hT : wls (funcLs x) ≤ 137438953472) (h1 : -576460752303423488 ≤ left) (h2 : left ≤ 4194304) :
    Calls Tryz.prog 53 #[.agg cs.toArray, layV fb lb, fullV fb] w (FuncP base lb fb w ls left (funcLs x)) := by
  have hbs : base ≤ w.heap.size := Nat.le_trans hS.1 (by obtain ⟨_, _, _, _, _, o, _⟩ := hS; exact Nat.le_of_lt o.lt)
  obtain ⟨u1, u2, u3, rfl, kp, kv, kb⟩ := hx
  have hN : (funcLs x).length ≤ 137438953472 := Nat.le_trans (len_wls (func_ne x)) hT
  obtain ⟨nm, rs, ps, vs, bl⟩ := x
  simp only at kp kv kb
  obtain ⟨B1, c1, rfl⟩ := kp.form
  obtain ⟨B2, c2, rfl⟩ := kv.form
  obtain ⟨B3, c3, rfl⟩ := kb.form
  obtain ⟨b3, f3, hn3, hm3, ha3, hc3⟩ := kb.get
  have hbl : ∀ b ∈ bl, blockR b = true := by
    unfold funcR allR at hR
    simp only [Bool.and_eq_true, List.all_eq_true] at hR
    exact hR.2.2.2.2.2.2
  obtain ⟨W, hW⟩ : ∃ W, w.alloc (.cells #[str nm, str rs, .slice B1 ps.length c1, .slice B2 vs.length c2, .slice B3 bl.length c3] 38) = W := ⟨_, rfl⟩
  have hO : Own W w.heap.size 38 [str nm, str rs, .slice B1 ps.length c1, .slice B2 vs.length c2, .slice B3 bl.length c3] := by rw [← hW]; exact Own.made w _ [str nm, str rs, .slice B1 ps.length c1, .slice B2 vs.length c2, .slice B3 bl.length c3]
  have hbW : Below w.heap.size w W := by rw [← hW]; exact (Below.refl _ _).alloc (Nat.le_refl _) _
  have HS0 := Lib.hid (Laid.start hS hbW)
  have HO := Lib.hid hO
  have HW := Lib.hid hW
  have HF := Lib.hid (head_func nm rs ps vs bl)
  have hT0 := hT
  have hN0 := hN
  rw [HF.out] at hT0 hN0
  have HT := Lib.hid hT0
  have HN := Lib.hid hN0
  have HR := Lib.hid hbl
  have HI := Lib.hid (show ∀ b ∈ bl, blockI b from hI)
  have HH := Lib.hid hh
  have HL := Lib.hid hL
  have KP := Lib.hid kp
  have KV := Lib.hid kv
  have HC3 := Lib.hid hc3
  have HA3 := Lib.hid ha3
  have hbsW : base ≤ W.heap.size := HS0.out.size
  have hf1 : ([] ++ [[kFunc, nm, rs]]) <+: (headF nm rs ps vs ++ bl.flatMap blockLs) := ⟨ps.map (varL kParam) ++ (vs.map (varL kVar) ++ bl.flatMap blockLs), by simp [headF]⟩
  have hf2 : (([] ++ [[kFunc, nm, rs]]) ++ ps.map (varL kParam)) <+: (headF nm rs ps vs ++ bl.flatMap blockLs) := ⟨vs.map (varL kVar) ++ bl.flatMap blockLs, by simp [headF]⟩
  have hf3 : headF nm rs ps vs <+: (headF nm rs ps vs ++ bl.flatMap blockLs) := ⟨_, rfl⟩
  have hw1 : wls ([] ++ [[kFunc, nm, rs]]) ≤ 137438953472 := Nat.le_trans (pre_w hf1) hT0
  have hw2 : wls (([] ++ [[kFunc, nm, rs]]) ++ ps.map (varL kParam)) ≤ 137438953472 := Nat.le_trans (pre_w hf2) hT0
  have hw3 : wls ((([] ++ [[kFunc, nm, rs]]) ++ ps.map (varL kParam)) ++ vs.map (varL kVar)) ≤ 137438953472 := Nat.le_trans (pre_w hf3) hT0
  have hn2 : (([] ++ [[kFunc, nm, rs]]) ++ ps.map (varL kParam)).length ≤ 137438953472 := Nat.le_trans (pre_n hf2) hN0
  have hn3' : ((([] ++ [[kFunc, nm, rs]]) ++ ps.map (varL kParam)) ++ vs.map (varL kVar)).length ≤ 137438953472 := Nat.le_trans (pre_n hf3) hN0
  rw [List.length_append, List.length_map] at hn2 hn3'
  have HLN7 : Hid (ls.length + ([] ++ [[kFunc, nm, rs]]).length + ps.length ≤ 1099511627776) := Lib.hid (by omega)
  have HWL7 : Hid (wls (([] ++ [[kFunc, nm, rs]]) ++ ps.map (varL kParam)) ≤ 1099511627776) := Lib.hid (by omega)
  have HLN8 : Hid (ls.length + (([] ++ [[kFunc, nm, rs]]) ++ ps.map (varL kParam)).length + vs.length ≤ 1099511627776) := Lib.hid (by omega)
  have HWL8 : Hid (wls ((([] ++ [[kFunc, nm, rs]]) ++ ps.map (varL kParam)) ++ vs.map (varL kVar)) ≤ 1099511627776) := Lib.hid (by omega)
  have HWL6 : Hid (wls ([] ++ [[kFunc, nm, rs]]) ≤ 1099511627776) := Lib.hid (by omega)
  clear hw1 hw2 hw3 hn2 hn3'
  clear hO hW hT hT0 hN hN0 hR hI hh hL kp kv kb hc3 ha3 hbW hS hbl hf1 hf2 hf3 hbs
  go_enter Tryz.func53, Tryz.ntmps53
  have hr := made_row (base := base) (g := w.heap.size + 1) (w := W) [.string ⟨#[102, 117, 110, 99]⟩, str nm, str rs] [kFunc, nm, rs] rfl (by rw [← HW.out]; simp) hbsW (by simp [LinesM.strs, kFunc]) (by simp)
  have QL := Lib.hid (Laid.more (v := .slice (some ⟨w.heap.size + 1, 0, none⟩) 3 3) (HS0.out.below ((Below.refl _ _).alloc (Nat.le_refl _) (.cells #[.string ⟨#[102, 117, 110, 99]⟩, str nm, str rs] 9))) hr (by simp; omega) HWL6.out (by omega) h2)
  have HO1 := Lib.hid (HO.out.alloc (.cells #[.string ⟨#[102, 117, 110, 99]⟩, str nm, str rs] 9))
  clear hr hbsW
  go_wp2_with fail
  rw [HW.out]
  refine QL.out.mono ?_
  rintro e w7 ⟨rfl, hp, hk7⟩
  have HP7 := Lib.hid hp
  have HO7 := Lib.hid (hk7 _ _ _ HO1.out (by decide) (by decide) (by decide))
  have g2 := HO7.out.cell 2
  have g3 := HO7.out.cell 3
  simp only [List.getElem?_cons_succ, List.getElem?_cons_zero] at g2 g3
  clear hp hk7
  have HV7 := Lib.hid (Vars.move (Still.of_below (HP7.out.2.1.mono HH.out)) KP.out)
  go_wp2_with fail
  refine (Laid.vars HP7.out kParam ⟨#[112, 97, 114, 97, 109]⟩ rfl HV7.out HH.out HLN7.out HWL7.out (by omega) h2).mono ?_
  rintro e w8 ⟨rfl, hp, hk8⟩
  have HP8 := Lib.hid hp
  have HO8 := Lib.hid (hk8 _ _ _ HO7.out (by decide) (by decide) (by decide))
  clear g2 g3
  have g3 := HO8.out.cell 3
  simp only [List.getElem?_cons_succ, List.getElem?_cons_zero] at g3
  have HV8 := Lib.hid (Vars.move (Still.of_below (HP8.out.2.1.mono HH.out)) KV.out)
  clear hp hk8
  go_wp2_with fail
  refine (Laid.vars HP8.out kVar ⟨#[118, 97, 114]⟩ rfl HV8.out HH.out HLN8.out HWL8.out (by omega) h2).mono ?_
  rintro e w9 ⟨rfl, hp, hk9⟩
  have HP9 := Lib.hid hp
  have HO9 := Lib.hid (hk9 _ _ _ HO8.out (by decide) (by decide) (by decide))
  clear g3
  have g4 := HO9.out.cell 4
  simp only [List.getElem?_cons_succ, List.getElem?_cons_zero] at g4
  clear hp hk9
  go_wp2_with fail
  clear g4 HO7 HO8 HO9 HV7 HV8 HP7 HP8 HLN7 HLN8 HWL7 HWL8 HWL6 QL HO1 HO HS0 KP KV HW
  go_loopw [30] (fun i wr => ∃ k : Nat, k ≤ bl.length ∧ i = .int .i64 k ∧ Hid (Laid base lb fb w ls left (headF nm rs ps vs ++ (bl.take k).flatMap blockLs) wr)) (fun i _ => bl.length - (intOf i).toNat)
  case atStart => exact ⟨0, Nat.zero_le _, rfl, Lib.hid (by simpa using HP9.out)⟩
  case round =>
  obtain ⟨k, hk, rfl, HP⟩ := hrel
  by_cases hlt : k < bl.length
  · obtain ⟨⟨bn, phs, cod, ⟨tk, ⟨ak, as_, an⟩, td, tn⟩⟩, hf⟩ : ∃ y, bl[k]? = some y := ⟨_, List.getElem?_eq_getElem hlt⟩
    obtain ⟨rfl, _, hb1⟩ := HA3.out (by omega)
    obtain ⟨cs, _, q1, hbc⟩ := HC3.out k _ hf
    have hmem := List.mem_of_getElem? hf
    obtain ⟨rP, rC, rF⟩ := block_parts (HR.out _ hmem)
    obtain ⟨iP, iC, iF⟩ := HI.out _ hmem
    obtain ⟨y1, y2, cs3, rfl, hy1, hy2, y3, hcs3, hy3⟩ := hbc
    subst hcs3
    simp only at hy1 hy2 hy3 q1 rP rC rF iP iC iF
    obtain ⟨C1, l1, rfl⟩ := hy1.form
    obtain ⟨C2, l2, rfl⟩ := hy2.form
    obtain ⟨C3, l3, rfl⟩ := hy3.form
    obtain ⟨n0, n1, n2, n3, n4, n5, n6, n7, n8⟩ := at9 (cells_later q1 HP.out.2.1 (show b3 < base by have := HH.out; omega))
    obtain ⟨W1, hW1⟩ : ∃ W1, wr.alloc (.cells #[str bn, .slice C1 phs.length l1, .slice C2 cod.length l2, i64 tk, i64 ak, str as_, i64 an, .slice C3 td.length l3, i64 tn] 47) = W1 := ⟨_, rfl⟩
    have hO1 : Own W1 wr.heap.size 47 [str bn, .slice C1 phs.length l1, .slice C2 cod.length l2, i64 tk, i64 ak, str as_, i64 an, .slice C3 td.length l3, i64 tn] := by rw [← hW1]; exact Own.made wr _ [str bn, .slice C1 phs.length l1, .slice C2 cod.length l2, i64 tk, i64 ak, str as_, i64 an, .slice C3 td.length l3, i64 tn]
    have hb1W : Below wr.heap.size wr W1 := by rw [← hW1]; exact (Below.refl _ _).alloc (Nat.le_refl _) _
    obtain ⟨g, hg⟩ : ∃ g, wr.heap.size = g := ⟨_, rfl⟩
    have hz1 : W1.heap.size = g + 1 := by rw [← hW1, ← hg]; simp
    have HLW := Lib.hid (HP.out.below hb1W)
    obtain ⟨Pb, hPb⟩ : ∃ Pb, headF nm rs ps vs ++ (bl.take k).flatMap blockLs = Pb := ⟨_, rfl⟩
    have hpre : Pb ++ blockLs ⟨bn, phs, cod, ⟨tk, ⟨ak, as_, an⟩, td, tn⟩⟩ <+: headF nm rs ps vs ++ bl.flatMap blockLs := by rw [← hPb, List.append_assoc]; exact ahead_pre _ (flat_pre blockLs hf)
    have hpw : ∀ A, A <+: Pb ++ blockLs ⟨bn, phs, cod, ⟨tk, ⟨ak, as_, an⟩, td, tn⟩⟩ → (wls A ≤ 137438953472 ∧ A.length ≤ 137438953472) ∧ A <+: headF nm rs ps vs ++ bl.flatMap blockLs := fun A hA =>
      ⟨⟨Nat.le_trans (pre_w (hA.trans hpre)) HT.out, Nat.le_trans (pre_n (hA.trans hpre)) HN.out⟩, hA.trans hpre⟩
    have hend : (bl.take (k + 1)).flatMap blockLs = (bl.take k).flatMap blockLs ++ blockLs ⟨bn, phs, cod, ⟨tk, ⟨ak, as_, an⟩, td, tn⟩⟩ := by rw [LinesM.take_next hf, List.flatMap_append]; simp
    have HEND : Hid (headF nm rs ps vs ++ (bl.take (k + 1)).flatMap blockLs = Pb ++ blockLs ⟨bn, phs, cod, ⟨tk, ⟨ak, as_, an⟩, td, tn⟩⟩) := Lib.hid (by rw [hend, ← List.append_assoc, hPb])
    rw [hPb] at HLW
    have hbase : base ≤ W1.heap.size := HLW.out.size
    have hr := made_row (base := base) (g := g + 1) (w := W1) [.string ⟨#[98, 108, 111, 99, 107]⟩, str bn] [kBlock, bn] rfl hz1.symm hbase (by simp [LinesM.strs, kBlock]) (by simp)
    have HPW := Lib.hid hpw
    obtain ⟨hk1, hk2⟩ := (hpw _ (blk1 Pb bn phs cod ⟨tk, ⟨ak, as_, an⟩, td, tn⟩)).1
    rw [List.length_append] at hk2
    have QL := Lib.hid (Laid.more (v := .slice (some ⟨g + 1, 0, none⟩) 2 2) (HLW.out.below ((Below.refl _ _).alloc (Nat.le_refl _) (.cells #[.string ⟨#[98, 108, 111, 99, 107]⟩, str bn] 9))) hr (by omega) (by omega) (by omega) h2)
    have HOW := Lib.hid ((hg ▸ hO1).alloc (.cells #[.string ⟨#[98, 108, 111, 99, 107]⟩, str bn] 9))
    have HW1 := Lib.hid hW1
    have HG := Lib.hid hg
    have HY1 := Lib.hid hy1
    have HY2 := Lib.hid hy2
    have HY3 := Lib.hid hy3
    have RP := Lib.hid rP
    have RC := Lib.hid rC
    have RF := Lib.hid rF
    have IP := Lib.hid iP
    have IC := Lib.hid iC
    have IF := Lib.hid iF
    clear hO1 hb1W hW1 hPb hpre hpw hend hbase hr hk1 hk2 hy1 hy2 hy3 rP rC rF iP iC iF hmem hf q1 hg
    go_wp2_with fail
    rw [HW1.out, HG.out]
    refine QL.out.mono ?_
    rintro e w10 ⟨rfl, hp, hk10⟩
    have HP10 := Lib.hid hp
    have HO10 := Lib.hid (hk10 _ _ _ HOW.out (by decide) (by decide) (by decide))
    have p1 := HO10.out.cell 1
    simp only [List.getElem?_cons_succ, List.getElem?_cons_zero] at p1
    clear hp hk10 QL HOW HLW HW1 n0 n1 n2 n3 n4 n5 n6 n7 n8
    go_wp2_with fail
    clear p1
    go_loopw [42] (fun i wr => ∃ j : Nat, j ≤ phs.length ∧ i = .int .i64 j ∧ Hid (Laid base lb fb w ls left ((Pb ++ [[kBlock, bn]]) ++ (phs.take j).map phiL) wr) ∧ Hid (Own wr g 47 [str bn, .slice C1 phs.length l1, .slice C2 cod.length l2, i64 tk, i64 ak, str as_, i64 an, .slice C3 td.length l3, i64 tn])) (fun i _ => phs.length - (intOf i).toNat)
    case atStart => exact ⟨0, Nat.zero_le _, rfl, Lib.hid (by simpa using HP10.out), HO10⟩
    case round =>
    obtain ⟨j, hj, rfl, HQ, HOq⟩ := hrel
    by_cases hlj : j < phs.length
    · obtain ⟨⟨pd, pi⟩, hf⟩ : ∃ y, phs[j]? = some y := ⟨_, List.getElem?_eq_getElem hlj⟩
      obtain ⟨b4, f4, hn4, hm4, a4, j4⟩ := HY1.out.get
      obtain ⟨rfl, _, hb4⟩ := a4 (by omega)
      obtain ⟨cs4, _, q4, hfc⟩ := j4 j _ hf
      have hmem := List.mem_of_getElem? hf
      have hf0 := hfc
      obtain ⟨u, rfl, hbf⟩ := hfc
      obtain ⟨B4, c4, rfl⟩ := hbf.form
      clear hbf
      obtain ⟨n0, n1⟩ := at2 (cells_later q4 HQ.out.2.1 (show b4 < base by have := HH.out; omega))
      simp only at hf0 n0 n1
      have hbx : Below wr.heap.size wr (wr.alloc (.cells #[str pd, .slice B4 pi.length c4] 131)) := (Below.refl _ _).alloc (Nat.le_refl _) _
      have HL8 := Lib.hid (HQ.out.below hbx)
      have HO8 := Lib.hid (HOq.out.below hbx HOq.out.lt)
      have QF := Lib.hid (phiWords_any lo hi _ _ ⟨pd, pi⟩ (PhiC.move (Still.of_below (HL8.out.2.1.mono HH.out)) hf0) (Nat.le_trans HH.out HL8.out.size) (IP.out _ hmem) (phi_ins (RP.out _ hmem)))
      obtain ⟨⟨hk1, hk2⟩, _⟩ := HPW.out _ (blk2 Pb bn phs cod ⟨tk, ⟨ak, as_, an⟩, td, tn⟩ hf)
      have e1 : ((Pb ++ [[kBlock, bn]]) ++ (phs.take j).map phiL) ++ [phiL ⟨pd, pi⟩] = (Pb ++ [[kBlock, bn]]) ++ (phs.take (j + 1)).map phiL := by rw [LinesM.take_next hf, List.map_append, List.append_assoc]; rfl
      have HT2 : Hid (wls (((Pb ++ [[kBlock, bn]]) ++ (phs.take j).map phiL) ++ [phiL ⟨pd, pi⟩]) ≤ 1099511627776) := Lib.hid (by omega)
      rw [List.length_append] at hk2
      have HLN : Hid (ls.length + ((Pb ++ [[kBlock, bn]]) ++ (phs.take j).map phiL).length ≤ 1099511627776) := Lib.hid (by omega)
      have HE1 := Lib.hid e1
      clear hk1 hk2 e1 hbx hf0 hmem hf q4 a4 j4
      go_wp2_with (first
        | ((with_reducible refine QF.out.mono ?_); rintro e w11 ⟨v9, rfl, ho9, hb9⟩; have HL9 := Lib.hid (HL8.out.below hb9); have HR9 := Lib.hid (LinesM.own_lower ho9 HL8.out.size); have HO9 := Lib.hid (HO8.out.below hb9 HO8.out.lt); clear ho9 hb9)
        | ((with_reducible refine (Laid.more HL9.out HR9.out HLN.out HT2.out (by omega) h2).mono ?_); rintro e w12 ⟨rfl, hp, hk12⟩; have HP12 := Lib.hid hp; have HO12 := Lib.hid (hk12 _ _ _ HO9.out (by decide) (by decide) (by decide)); clear hp hk12))
      go_roundw
      case rel => exact ⟨j + 1, by omega, by go_num, Lib.hid (by rw [← HE1.out]; exact HP12.out), HO12⟩
      case measure => simp [intOf]; omega
    · have hkn : phs.take j = phs := List.take_of_length_le (by omega)
      rw [hkn] at HQ
      have p2 := HOq.out.cell 2
      simp only [List.getElem?_cons_succ, List.getElem?_cons_zero] at p2
      go_wp2_with fail
      clear p2 hkn HP10 HO10 hlj hj
      go_loopw [54] (fun i wr => ∃ j : Nat, j ≤ cod.length ∧ i = .int .i64 j ∧ Hid (Laid base lb fb w ls left (((Pb ++ [[kBlock, bn]]) ++ phs.map phiL) ++ (cod.take j).flatMap instrLs) wr) ∧ Hid (Own wr g 47 [str bn, .slice C1 phs.length l1, .slice C2 cod.length l2, i64 tk, i64 ak, str as_, i64 an, .slice C3 td.length l3, i64 tn])) (fun i _ => cod.length - (intOf i).toNat)
      case atStart => exact ⟨0, Nat.zero_le _, rfl, Lib.hid (by simpa using HQ.out), HOq⟩
      case round =>
      clear HQ HOq
      obtain ⟨j, hj, rfl, HQ, HOq⟩ := hrel
      by_cases hlj : j < cod.length
      · obtain ⟨z, hf⟩ : ∃ y, cod[j]? = some y := ⟨_, List.getElem?_eq_getElem hlj⟩
        obtain ⟨b4, f4, hn4, hm4, a4, j4⟩ := HY2.out.get
        obtain ⟨rfl, _, hb4⟩ := a4 (by omega)
        obtain ⟨cs4, _, q4, hfc⟩ := j4 j _ hf
        have hmem := List.mem_of_getElem? hf
        have hf0 := hfc
        obtain ⟨x1, x2, x3, e1', ha1, ha2, ha3⟩ := hfc
        subst e1'
        obtain ⟨D1, d1, rfl⟩ := ha1.form
        obtain ⟨D2, d2, rfl⟩ := ha2.form
        obtain ⟨D3, d3, rfl⟩ := ha3.form
        clear ha1 ha2 ha3
        obtain ⟨n0, n1, n2, n3, n4, n5⟩ := at6 (cells_later q4 HQ.out.2.1 (show b4 < base by have := HH.out; omega))
        obtain ⟨W2, hW2⟩ : ∃ W2, wr.alloc (.cells #[i64 z.op, str z.dst, str z.name, .slice D1 z.args.length d1, .slice D2 z.frames.length d2, .slice D3 z.objs.length d3] 52) = W2 := ⟨_, rfl⟩
        have hO2 : Own W2 wr.heap.size 52 [i64 z.op, str z.dst, str z.name, .slice D1 z.args.length d1, .slice D2 z.frames.length d2, .slice D3 z.objs.length d3] := by rw [← hW2]; exact Own.made wr _ [i64 z.op, str z.dst, str z.name, .slice D1 z.args.length d1, .slice D2 z.frames.length d2, .slice D3 z.objs.length d3]
        have hbx : Below wr.heap.size wr W2 := by rw [← hW2]; exact (Below.refl _ _).alloc (Nat.le_refl _) _
        have HL8 := Lib.hid (HQ.out.below hbx)
        have HO8 := Lib.hid (HOq.out.below hbx HOq.out.lt)
        obtain ⟨⟨hk1, hk2⟩, hk3⟩ := HPW.out _ (blk3 Pb bn phs cod ⟨tk, ⟨ak, as_, an⟩, td, tn⟩ hf)
        have e1 : (((Pb ++ [[kBlock, bn]]) ++ phs.map phiL) ++ (cod.take j).flatMap instrLs) ++ instrLs z = ((Pb ++ [[kBlock, bn]]) ++ phs.map phiL) ++ (cod.take (j + 1)).flatMap instrLs := by rw [LinesM.take_next hf, List.flatMap_append, List.append_assoc]; simp
        have hT2 : wls ((((Pb ++ [[kBlock, bn]]) ++ phs.map phiL) ++ (cod.take j).flatMap instrLs) ++ instrLs z) ≤ 549755813888 := by omega
        have hk4 := pre_n (List.prefix_append (((Pb ++ [[kBlock, bn]]) ++ phs.map phiL) ++ (cod.take j).flatMap instrLs) (instrLs z))
        have hLN : ls.length + (((Pb ++ [[kBlock, bn]]) ++ phs.map phiL) ++ (cod.take j).flatMap instrLs).length ≤ 549755813888 := by omega
        have hpre : ((Pb ++ [[kBlock, bn]]) ++ phs.map phiL) ++ (cod.take j).flatMap instrLs <+: headF nm rs ps vs ++ bl.flatMap blockLs := (List.prefix_append _ (instrLs z)).trans hk3
        have HPRE := Lib.hid hpre
        have HE1 := Lib.hid e1
        have HW2 := Lib.hid hW2
        have QF := full_any W2 fb _ HL8.out.left
        have QI := Lib.hid (Laid.instr HL8.out (InstrC.move (Still.of_below (HL8.out.2.1.mono HH.out)) hf0) HH.out (HL.out.of_block (HL8.out.2.1.block _ hg0)) (RC.out _ hmem) (IC.out _ hmem) hLN hT2 (by omega) h2)
        have g0 := hO2.cell 0
        have g1 := hO2.cell 1
        have g2 := hO2.cell 2
        have g3 := hO2.cell 3
        have g4 := hO2.cell 4
        have g5 := hO2.cell 5
        simp only [List.getElem?_cons_succ, List.getElem?_cons_zero] at g0 g1 g2 g3 g4 g5
        clear hk1 hk2 hk3 hk4 e1 hbx hf0 hmem hf q4 a4 j4 hpre hT2 hLN hW2 hO2
        by_cases hful : left - (wls (((Pb ++ [[kBlock, bn]]) ++ phs.map phiL) ++ (cod.take j).flatMap instrLs) : Nat) < 0
        · rw [decide_eq_true hful] at QF
          have QF2 := Lib.hid QF
          have HFU := Lib.hid hful
          clear QF hful
          go_wp2_with fail
          rw [HW2.out]
          refine QF2.out.mono ?_
          rintro e w11 ⟨rfl, hw11⟩
          obtain rfl := hw11
          go_wp2_with fail
          go_end0
          exact ⟨rfl, _, pre_w (HF.out ▸ HPRE.out), pre_n (HF.out ▸ HPRE.out), HL8.out, .inr HFU.out⟩
        · rw [decide_eq_false hful] at QF
          have QF2 := Lib.hid QF
          clear QF hful
          go_wp2_with fail
          rw [HW2.out]
          refine QF2.out.mono ?_
          rintro e w11 ⟨rfl, hw11⟩
          obtain rfl := hw11
          go_wp2_with fail
          refine QI.out.mono ?_
          rintro e w12 ⟨rfl, hp, hk12⟩
          have HP12 := Lib.hid hp
          have HO12 := Lib.hid (hk12 _ _ _ HO8.out (by decide) (by decide) (by decide))
          clear hp hk12 g0 g1 g2 g3 g4 g5
          go_wp2_with fail
          go_roundw
          case rel => exact ⟨j + 1, by omega, by go_num, Lib.hid (by rw [← HE1.out]; exact HP12.out), HO12⟩
          case measure => simp [intOf]; omega
      · have hkn : cod.take j = cod := List.take_of_length_le (by omega)
        rw [hkn] at HQ
        have p3 := HOq.out.cell 3
        have p4 := HOq.out.cell 4
        have p5 := HOq.out.cell 5
        have p6 := HOq.out.cell 6
        have p7 := HOq.out.cell 7
        have p8 := HOq.out.cell 8
        simp only [List.getElem?_cons_succ, List.getElem?_cons_zero] at p3 p4 p5 p6 p7 p8
        have hfin : finLs ⟨tk, ⟨ak, as_, an⟩, td, tn⟩ = [endL ⟨tk, ⟨ak, as_, an⟩, td, tn⟩] := finLs_of RF.out
        have e1 := blk4 Pb bn phs cod ⟨tk, ⟨ak, as_, an⟩, td, tn⟩ hfin
        obtain ⟨⟨hk1, hk2⟩, _⟩ := HPW.out _ (List.prefix_rfl)
        rw [← e1] at hk1 hk2
        rw [List.length_append] at hk2
        have QE := Lib.hid (endWords_any lo hi wr _ ⟨tk, ⟨ak, as_, an⟩, td, tn⟩ ⟨_, rfl, Texts.move (Still.of_below (HQ.out.2.1.mono HH.out)) HY3.out⟩ (Nat.le_trans HH.out HQ.out.size) IF.out RF.out)
        have HT2 : Hid (wls ((((Pb ++ [[kBlock, bn]]) ++ phs.map phiL) ++ cod.flatMap instrLs) ++ [endL ⟨tk, ⟨ak, as_, an⟩, td, tn⟩]) ≤ 1099511627776) := Lib.hid (by omega)
        have HLN : Hid (ls.length + (((Pb ++ [[kBlock, bn]]) ++ phs.map phiL) ++ cod.flatMap instrLs).length ≤ 1099511627776) := Lib.hid (by omega)
        have HE1 := Lib.hid e1
        clear hk1 hk2 e1 hfin hkn
        go_wp2_with fail
        refine QE.out.mono ?_
        rintro e w11 ⟨v9, rfl, ho9, hb9⟩
        have HL9 := Lib.hid (HQ.out.below hb9)
        have HR9 := Lib.hid (LinesM.own_lower ho9 HQ.out.size)
        clear ho9 hb9 p3 p4 p5 p6 p7 p8
        go_wp2_with fail
        refine (Laid.more HL9.out HR9.out HLN.out HT2.out (by omega) h2).mono ?_
        rintro e w12 ⟨rfl, hp, _⟩
        have HP12 := Lib.hid hp
        clear hp
        go_wp2_with fail
        go_roundw
        case rel => exact ⟨k + 1, by omega, by go_num, Lib.hid (by rw [HEND.out, ← HE1.out]; exact HP12.out)⟩
        case measure => simp [intOf]; omega
  · have hkn : bl.take k = bl := List.take_of_length_le (by omega)
    rw [hkn] at HP
    go_wp2_with fail
    go_end0
    exact ⟨rfl, _, by rw [HF.out]; exact Nat.le_refl _, by rw [HF.out]; exact Nat.le_refl _, HP.out, .inl HF.out.symm⟩
end Go.Proofs.YtkmndgjabkjafaaGreatDoor.Sh6
