/-
  Package types: a field; whether an instruction is given what it must be.
-/
import Derived.Test.YtikfncgdjnljiaaDoorTySuit
namespace Go.Proofs.YtikfncgdjnljiaaDoor.Ty7
open Go.RowKit Api Syn WordM Mem

set_option maxRecDepth 100000 in
set_option maxHeartbeats 8000000 in
theorem field_any (lo hi : Nat) (w : World) (cs : List Value) (q : Prog) (hq : ProgC lo hi w cs q) (hh : hi ≤ w.heap.size) (nc nn : Wd) (sc sn : ByteArray) (hsc : sc.data.toList = nc) (hsn : sn.data.toList = nn) :
    Calls Tryd.prog 39 #[.agg cs.toArray, .string sc, .string sn] w (VarP w (fieldIn q nc nn)) := by
  have hq0 := hq
  obtain ⟨u1, u2, u3, u4, rfl, k1, k2, k3, k4⟩ := hq
  obtain ⟨B1, c1, rfl⟩ := k1.form
  obtain ⟨B2, c2, rfl⟩ := k2.form
  obtain ⟨B3, c3, rfl⟩ := k3.form
  obtain ⟨B4, c4, rfl⟩ := k4.form
  obtain ⟨W, hW⟩ : ∃ W, (w.alloc (.cells #[.bool q.ssa, .slice B1 q.classes.length c1, .slice B2 q.globals.length c2, .slice B3 q.externs.length c3, .slice B4 q.funcs.length c4] 27)).alloc (.cells #[str [], str []] 40) = W := ⟨_, rfl⟩
  have hR : Own W (w.heap.size + 1) 40 [str [], str []] := by
    rw [← hW]
    have := Own.made (w.alloc (.cells #[.bool q.ssa, .slice B1 q.classes.length c1, .slice B2 q.globals.length c2, .slice B3 q.externs.length c3, .slice B4 q.funcs.length c4] 27)) 40 [str [], str []]
    rw [show (w.alloc (.cells #[.bool q.ssa, .slice B1 q.classes.length c1, .slice B2 q.globals.length c2, .slice B3 q.externs.length c3, .slice B4 q.funcs.length c4] 27)).heap.size = w.heap.size + 1 by simp] at this
    exact this
  have hb : Below w.heap.size w W := by rw [← hW]; exact ((Below.refl _ _).alloc (Nat.le_refl _) _).alloc (by simp) _
  have hf : fieldIn q nc nn = (q.classes.find? fun x => x.name == nc).bind fun c => c.fields.find? fun x => x.name == nn := rfl
  rw [hf]
  have Q1 := Lib.hid (findClass_any lo hi W _ q.classes nc sc hsc (Classes.move (Still.of_below (hb.mono hh)) k1) (Nat.le_trans hh hb.size))
  have HW := Lib.hid hW
  have HR := Lib.hid hR
  have HB := Lib.hid hb
  clear hW hR hb hf k1 k2 k3 k4 hq0
  go_enter Tryd.func39, Tryd.ntmps39
  go_wp2_with fail
  rw [HW.out]
  refine Q1.out.mono ?_
  intro e w5 hP
  clear Q1
  obtain ⟨r, hr⟩ : ∃ r, (q.classes.find? fun x => x.name == nc) = r := ⟨_, rfl⟩
  rw [hr] at hP
  have HRR := Lib.hid hr
  clear hr
  obtain ⟨hb5, hP⟩ := hP
  have o5 := HR.out.below hb5 HR.out.lt
  have HR5 := Lib.hid o5
  have hbW : Below w.heap.size w w5 := HB.out.trans (hb5.mono HB.out.size)
  have HBW := Lib.hid hbW
  have hl5 : w.heap.size < w5.heap.size := by have := o5.lt; omega
  have ylt : w.heap.size + 1 < w5.heap.size := o5.lt
  cases r with
  | none =>
    subst hP
    have z0 := (o5.cell 0).trans rfl
    have t0 := o5.thaw 0
    have z1 := (o5.cell 1).trans rfl
    have t1 := o5.thaw 1
    have HS5 := Lib.hid (Nat.le_of_lt hl5)
    clear hb5 hbW o5
    go_wp2_with fail
    exact bodyPost_ret (v := .tuple #[.agg #[str [], str []], .bool false]) (by rw [results_cell_tmp rfl]; go_simp) rfl ⟨(two_in HBW.out (Nat.le_succ _)).alloc (by simpa [World.setCell] using HS5.out) _, by rw [HRR.out]; rfl⟩
  | some c =>
    obtain ⟨cs3, rfl, u, rfl, hu⟩ := hP
    obtain ⟨D1, d1, rfl⟩ := hu.form
    have hx := hbW.alloc (Nat.le_of_lt hl5) (.cells #[str c.name, .slice D1 c.fields.length d1] 36)
    obtain ⟨W6, hW6⟩ : ∃ W6, w5.alloc (.cells #[str c.name, .slice D1 c.fields.length d1] 36) = W6 := ⟨_, rfl⟩
    rw [hW6] at hx
    have o6 : Own W6 (w.heap.size + 1) 40 [str [], str []] := by rw [← hW6]; exact o5.alloc _
    have hb6 : Below w5.heap.size w5 W6 := by rw [← hW6]; exact (Below.refl _ _).alloc (Nat.le_refl _) _
    have Q2 := Lib.hid (findVar_any lo hi W6 _ c.fields nn sn hsn (Vars.move (Still.of_below (hb6.mono (Nat.le_trans hh hbW.size))) hu) (Nat.le_trans hh hx.size))
    have HO6 := Lib.hid o6
    have HX := Lib.hid hx
    have HW6 := Lib.hid hW6
    clear hb5 hbW o5 o6 hx hu hW6 hb6
    go_wp2_with fail
    rw [HW6.out]
    refine Q2.out.mono ?_
    intro e w7 hP
    clear Q2
    obtain ⟨r2, hr2⟩ : ∃ r, (c.fields.find? fun x => x.name == nn) = r := ⟨_, rfl⟩
    rw [hr2] at hP
    have HR2 := Lib.hid hr2
    clear hr2
    cases r2 with
    | some v =>
      obtain ⟨rfl, hb7⟩ := VarP.some hP
      have o7 := HO6.out.below hb7 HO6.out.lt
      have z0 := (o7.cell 0).trans rfl
      have t0 := o7.thaw 0
      have z1 := (o7.cell 1).trans rfl
      have t1 := o7.thaw 1
      have ylt := o7.lt
      have HBW7 := Lib.hid (HX.out.trans (hb7.mono HX.out.size))
      clear hb7 hP o7
      go_wp2_with fail
      exact bodyPost_ret (v := .tuple #[.agg #[str v.name, str v.type], .bool true]) (by rw [results_cell_tmp rfl]; go_simp) rfl ⟨two_in HBW7.out (Nat.le_succ _), by rw [HRR.out]; simp only [Option.bind_some]; rw [HR2.out]; exact ⟨_, rfl, rfl⟩⟩
    | none =>
      obtain ⟨rfl, hb7⟩ := VarP.none hP
      have o7 := HO6.out.below hb7 HO6.out.lt
      have z0 := (o7.cell 0).trans rfl
      have t0 := o7.thaw 0
      have z1 := (o7.cell 1).trans rfl
      have t1 := o7.thaw 1
      have ylt := o7.lt
      have HBW7 := Lib.hid (HX.out.trans (hb7.mono HX.out.size))
      clear hb7 hP o7
      go_wp2_with fail
      exact bodyPost_ret (v := .tuple #[.agg #[str [], str []], .bool false]) (by rw [results_cell_tmp rfl]; go_simp) rfl ⟨two_in HBW7.out (Nat.le_succ _), by rw [HRR.out]; simp only [Option.bind_some]; rw [HR2.out]; first | exact rfl | exact trivial⟩
set_option maxRecDepth 100000 in
set_option maxHeartbeats 8000000 in
theorem fieldOf_any (lo hi : Nat) (w : World) (cs ci : List Value) (q : Prog) (x : Instr) (hq : ProgC lo hi w cs q) (hi2 : InstrC lo hi w ci x) (hh : hi ≤ w.heap.size) (nt : Wd) (st : ByteArray) (hst : st.data.toList = nt) (h0 : 0 < x.args.length) :
    Calls Tryd.prog 81 #[.agg cs.toArray, .agg ci.toArray, .string st] w (VarP w (if (x.args.getD 0 ⟨0, [], 0⟩).kind = 1 then fieldIn q nt x.name else none)) := by
  have hq0 := hq
  obtain ⟨u1, u2, u3, u4, rfl, k1, k2, k3, k4⟩ := hq
  obtain ⟨B1, c1, rfl⟩ := k1.form
  obtain ⟨B2, c2, rfl⟩ := k2.form
  obtain ⟨B3, c3, rfl⟩ := k3.form
  obtain ⟨B4, c4, rfl⟩ := k4.form
  obtain ⟨w1, w2, w3, rfl, j1, j2, j3⟩ := hi2
  obtain ⟨D2, d2, rfl⟩ := j2.form
  obtain ⟨D3, d3, rfl⟩ := j3.form
  obtain ⟨A, n, cap, b, off, rfl, hn, hm2, ha, hc⟩ := j1
  obtain ⟨rfl, _, hb1⟩ := ha (by omega)
  obtain ⟨⟨ak, as_, an⟩, hx⟩ : ∃ y, x.args[0]? = some y := ⟨_, List.getElem?_eq_getElem h0⟩
  obtain ⟨cs3, _, q1, rfl⟩ := hc 0 _ hx
  have hg : (x.args.getD 0 ⟨0, [], 0⟩).kind = ak := by rw [List.getD_eq_getElem?_getD, hx]; rfl
  rw [hg]
  have m0 : w.cell? ⟨b, off, none⟩ = some (i64 ak) := by have := q1 0 _ rfl; simpa using this
  have hbw : b < w.heap.size := by omega
  have hbw1 : b < w.heap.size + 1 := by omega
  have hbw2 : b < w.heap.size + 1 + 1 := by omega
  obtain ⟨W, hW⟩ : ∃ W, ((w.alloc (.cells #[.bool q.ssa, .slice B1 q.classes.length c1, .slice B2 q.globals.length c2, .slice B3 q.externs.length c3, .slice B4 q.funcs.length c4] 27)).alloc (.cells #[i64 x.op, str x.dst, str x.name, .slice (some ⟨b, off, none⟩) x.args.length cap, .slice D2 x.frames.length d2, .slice D3 x.objs.length d3] 59)).alloc (.cells #[str [], str []] 40) = W := ⟨_, rfl⟩
  have hR : Own W (w.heap.size + 1 + 1) 40 [str [], str []] := by
    rw [← hW]
    have := Own.made ((w.alloc (.cells #[.bool q.ssa, .slice B1 q.classes.length c1, .slice B2 q.globals.length c2, .slice B3 q.externs.length c3, .slice B4 q.funcs.length c4] 27)).alloc (.cells #[i64 x.op, str x.dst, str x.name, .slice (some ⟨b, off, none⟩) x.args.length cap, .slice D2 x.frames.length d2, .slice D3 x.objs.length d3] 59)) 40 [str [], str []]
    rw [show ((w.alloc (.cells #[.bool q.ssa, .slice B1 q.classes.length c1, .slice B2 q.globals.length c2, .slice B3 q.externs.length c3, .slice B4 q.funcs.length c4] 27)).alloc (.cells #[i64 x.op, str x.dst, str x.name, .slice (some ⟨b, off, none⟩) x.args.length cap, .slice D2 x.frames.length d2, .slice D3 x.objs.length d3] 59)).heap.size = w.heap.size + 1 + 1 by simp] at this
    exact this
  have hb : Below w.heap.size w W := by rw [← hW]; exact (((Below.refl _ _).alloc (Nat.le_refl _) _).alloc (by simp) _).alloc (by simp; omega) _
  have HW := Lib.hid hW
  have HB := Lib.hid hb
  have HR := Lib.hid hR
  by_cases hk : ak = 1
  · subst hk
    rw [if_pos rfl]
    have QF := Lib.hid (field_any lo hi W _ q (ProgC.move (Still.of_below (hb.mono hh)) hq0) (Nat.le_trans hh hb.size) nt x.name st ⟨x.name.toArray⟩ hst rfl)
    clear hW hb hR q1 hc k1 k2 k3 k4 j2 j3 hq0 hx hg
    go_enter Tryd.func81, Tryd.ntmps81
    go_wp2_with fail
    rw [HW.out]
    refine QF.out.mono ?_
    intro e w7 hP
    clear QF
    obtain ⟨r, hr⟩ : ∃ r, fieldIn q nt x.name = r := ⟨_, rfl⟩
    rw [hr] at hP
    have HRR := Lib.hid hr
    clear hr
    cases r with
    | some v =>
      obtain ⟨rfl, hb7⟩ := VarP.some hP
      have o7 := HR.out.below hb7 HR.out.lt
      have z0 := (o7.cell 0).trans rfl
      have t0 := o7.thaw 0
      have z1 := (o7.cell 1).trans rfl
      have t1 := o7.thaw 1
      have ylt := o7.lt
      have HBW7 := Lib.hid (HB.out.trans (hb7.mono HB.out.size))
      clear hb7 hP o7
      go_wp2_with fail
      exact bodyPost_ret (v := .tuple #[.agg #[str v.name, str v.type], .bool true]) (by rw [results_cell_tmp rfl]; go_simp) rfl ⟨two_in HBW7.out (by omega), by rw [HRR.out]; exact ⟨_, rfl, rfl⟩⟩
    | none =>
      obtain ⟨rfl, hb7⟩ := VarP.none hP
      have o7 := HR.out.below hb7 HR.out.lt
      have z0 := (o7.cell 0).trans rfl
      have t0 := o7.thaw 0
      have z1 := (o7.cell 1).trans rfl
      have t1 := o7.thaw 1
      have ylt := o7.lt
      have HBW7 := Lib.hid (HB.out.trans (hb7.mono HB.out.size))
      clear hb7 hP o7
      go_wp2_with fail
      exact bodyPost_ret (v := .tuple #[.agg #[str [], str []], .bool false]) (by rw [results_cell_tmp rfl]; go_simp) rfl ⟨two_in HBW7.out (by omega), by rw [HRR.out]; try first | exact rfl | exact trivial⟩
  · rw [if_neg hk]
    have e1 : (ak != 1) = true := by simpa using hk
    have e2 : (ak == 1) = false := beq_false_of_ne hk
    clear hW hb hR q1 hc k1 k2 k3 k4 j2 j3 hq0 hx hg hk
    go_enter Tryd.func81, Tryd.ntmps81
    go_wp2_with fail
    rw [HW.out]
    have z0 := (HR.out.cell 0).trans rfl
    have z1 := (HR.out.cell 1).trans rfl
    have t0 := HR.out.thaw 0
    have t1 := HR.out.thaw 1
    have ylt := HR.out.lt
    go_wp2_with fail
    exact bodyPost_ret (v := .tuple #[.agg #[str [], str []], .bool false]) (by rw [results_cell_tmp rfl]; go_simp) rfl ⟨HB.out, rfl⟩
end Go.Proofs.YtikfncgdjnljiaaDoor.Ty7
