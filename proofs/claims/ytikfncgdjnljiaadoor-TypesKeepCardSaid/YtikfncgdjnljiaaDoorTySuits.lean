/-
  Package types: whether an instruction is given what it must be; whether it has its types.
-/
import Derived.Test.YtikfncgdjnljiaaDoorTySuit4
import Derived.Test.YtikfncgdjnljiaaDoorTySuit5
import Derived.Test.YtikfncgdjnljiaaDoorTySuit6
import Derived.Test.YtikfncgdjnljiaaDoorTyInstr
namespace Go.Proofs.YtikfncgdjnljiaaDoor.Ty7
open Go.RowKit Api Syn WordM Mem

theorem form_bounds {op : Int} (h : (formV op).2 = true) : 1 ≤ op ∧ op ≤ 34 := by
  unfold formV at h
  split at h
  · cases h
  · omega
theorem suits_any (lo hi lo2 hi2 : Nat) (w : World) (cs ci : List Value) (q : Prog) (x : Instr) (hq : ProgC lo hi w cs q) (hx : InstrC lo hi w ci x) (hh : hi ≤ w.heap.size) (tv : Value) (ts : List Wd) (hT : LinesM.Strs lo2 hi2 w tv ts) (hh2 : hi2 ≤ w.heap.size) (hlen : ts.length = x.args.length) (dst : Wd) (hf : (formV x.op).2 = true) (hl : (formV x.op).1.least ≤ (x.args.length : Int)) :
    Calls Tryd.prog 59 #[.agg cs.toArray, .agg ci.toArray, tv, str dst] w (SaysT w (suitsT q x ts dst)) := by
  have hx0 := hx
  obtain ⟨t1, t2, t3, rfl, l1, l2, l3⟩ := hx
  obtain ⟨D1, d1, rfl⟩ := l1.form
  obtain ⟨D2, d2, rfl⟩ := l2.form
  obtain ⟨D3, d3, rfl⟩ := l3.form
  obtain ⟨op, dn, nm, ag, fr, ob⟩ := x
  simp only at hx0 hlen hf hl
  have hb := form_bounds hf
  have hs : (⟨dst.toArray⟩ : ByteArray).toList = dst := str_list dst
  by_cases h : op ≤ 23
  · exact suits_num lo hi lo2 hi2 w cs q hq hh op dn nm ag fr ob D1 D2 D3 d1 d2 d3 hx0 tv ts hT hh2 hlen _ dst hs ⟨hb.1, h⟩
  have hc : op = 24 ∨ op = 25 ∨ op = 26 ∨ op = 27 ∨ op = 28 ∨ op = 29 ∨ op = 30 ∨ op = 31 ∨ op = 32 ∨ op = 33 ∨ op = 34 := by omega
  rcases hc with rfl | rfl | rfl | rfl | rfl | rfl | rfl | rfl | rfl | rfl | rfl
  · exact suits_mov lo hi lo2 hi2 w cs q hq hh 0 dn nm ag fr ob D1 D2 D3 d1 d2 d3 hx0 tv ts hT hh2 hlen _ dst hs (by have : (1 : Int) ≤ ag.length := hl; omega)
  · exact suits_new lo hi lo2 hi2 w cs q hq hh 0 dn nm ag fr ob D1 D2 D3 d1 d2 d3 hx0 tv ts hT hh2 hlen _ dst hs
  · exact suits_load lo hi lo2 hi2 w cs q hq hh 0 dn nm ag fr ob D1 D2 D3 d1 d2 d3 hx0 tv ts hT hh2 hlen _ dst hs (by have : (1 : Int) ≤ ag.length := hl; omega)
  · have h2 : 2 ≤ ag.length := by have : (2 : Int) ≤ ag.length := hl; omega
    cases hcase : (if ((ag.getD 0 ⟨0, [], 0⟩)).kind = 1 then fieldIn q (ts.getD 0 []) nm else none) with
    | none => exact suits_store_no lo hi lo2 hi2 w cs q hq hh 0 dn nm ag fr ob D1 D2 D3 d1 d2 d3 hx0 tv ts hT hh2 hlen _ dst hs h2 hcase
    | some v => exact suits_store_yes lo hi lo2 hi2 w cs q hq hh 0 dn nm ag fr ob D1 D2 D3 d1 d2 d3 hx0 tv ts hT hh2 hlen _ dst hs h2 v hcase
  · exact suits_same lo hi lo2 hi2 w cs q hq hh 0 dn nm ag fr ob D1 D2 D3 d1 d2 d3 hx0 tv ts hT hh2 hlen _ dst hs (by have : (2 : Int) ≤ ag.length := hl; omega)
  · exact suits_gload lo hi lo2 hi2 w cs q hq hh 0 dn nm ag fr ob D1 D2 D3 d1 d2 d3 hx0 tv ts hT hh2 hlen _ dst hs
  · exact suits_gstore lo hi lo2 hi2 w cs q hq hh 0 dn nm ag fr ob D1 D2 D3 d1 d2 d3 hx0 tv ts hT hh2 hlen _ dst hs (by have : (1 : Int) ≤ ag.length := hl; omega)
  · exact suits_call lo hi lo2 hi2 w cs q hq hh 0 dn nm ag fr ob D1 D2 D3 d1 d2 d3 hx0 tv ts hT hh2 hlen _ dst hs
  · exact suits_ext lo hi lo2 hi2 w cs q hq hh 0 dn nm ag fr ob D1 D2 D3 d1 d2 d3 hx0 tv ts hT hh2 hlen _ dst hs
  · exact suits_out lo hi lo2 hi2 w cs q hq hh 0 dn nm ag fr ob D1 D2 D3 d1 d2 d3 hx0 tv ts hT hh2 hlen _ dst hs (by have : (1 : Int) ≤ ag.length := hl; omega)
  · exact suits_guard lo hi lo2 hi2 w cs q hq hh 0 dn nm ag fr ob D1 D2 D3 d1 d2 d3 hx0 tv ts hT hh2 hlen _ dst hs
theorem form_most (op : Int) : (formV op).1.most ≤ 8 := Sh6.form_top op
/-- types.Instr. -/
theorem instr_any7 (hi : Nat) (w : World) (cs cf ci : List Value) (q : Prog) (f : Api.Func) (x : Instr) (hq : ProgC 0 hi w cs q) (hf : FuncC 0 hi w cf f) (hx : InstrC 0 hi w ci x) (hh : hi ≤ w.heap.size) (hL : Rd5.LaidS w) :
    Calls Tryd.prog 26 #[.agg cs.toArray, .agg cf.toArray, .agg ci.toArray] w fun e w' => e = .returned (.bool (instrT q f x)) ∧ Below w.heap.size w w' := by
  unfold instrT
  rcases hfo : (formV x.op).2 with _ | _
  · simp only [Bool.false_and]
    exact instr_none 0 hi w cs cf ci q f x hq hf hx hh hL hfo
  by_cases h1 : (formV x.op).1.least ≤ (x.args.length : Int)
  · by_cases h2 : (x.args.length : Int) ≤ (formV x.op).1.most
    · have hm := form_most x.op
      refine (instr_rest 0 hi w cs cf ci q f x hq hf hx hh hL (fun w' tv ts dst hb hs hl => ?_) (by omega) hfo h1 h2).mono ?_
      · exact (suits_any 0 hi 0 w'.heap.size w' cs ci q x (ProgC.move (Still.of_below (hb.mono hh)) hq) (InstrC.move (Still.of_below (hb.mono hh)) hx) (Nat.le_trans hh hb.size) tv ts hs (Nat.le_refl _) hl dst hfo h1).mono fun _ _ h => h
      · rintro e w' ⟨rfl, hb⟩
        refine ⟨?_, hb⟩
        rw [decide_eq_true h1, decide_eq_true h2]
        simp only [Bool.true_and]
        cases hd : ((formV x.op).1.dst && (varOf f x.dst).isNone) with
        | true => simp
        | false => simp only [Bool.not_false, Bool.true_and, Bool.false_eq_true, if_false]; cases typesA f x.args <;> rfl
    · have e2 : decide ((x.args.length : Int) ≤ (formV x.op).1.most) = false := decide_eq_false h2
      rw [e2]
      simp only [Bool.false_and, Bool.and_false]
      exact instr_count 0 hi w cs cf ci q f x hq hf hx hh hL hfo (.inr (by omega))
  · have e1 : decide ((formV x.op).1.least ≤ (x.args.length : Int)) = false := decide_eq_false h1
    rw [e1]
    simp only [Bool.false_and, Bool.and_false]
    exact instr_count 0 hi w cs cf ci q f x hq hf hx hh hL hfo (.inl (by omega))
end Go.Proofs.YtikfncgdjnljiaaDoor.Ty7
