/-
  Package syntax: what reads a line, by its first word.
-/
import Derived.Test.YtkfpcaganhmkcaaDoorLine
namespace Go.Proofs.YtkfpcaganhmkcaaDoor.Rd5
open Go.RowKit Api Hold Mem Syn WordM Tree

variable {w w' w1 w2 : World} {lo hi rb base N : Nat} {rc : RC} {v : Value} {l ws : List Wd} {row : Option Nat} {a : Tree.Act} {D D2 : List Rec} {p : Prog} {L T : Rec}
/-- What stands where: where a part of a function may stand there is a function, and so on. -/
structure Fits (p : Prog) (pl : Int) : Prop where
  cls : stB pl 4 = true → p.classes ≠ []
  par : stB pl 8 = true → p.funcs ≠ []
  var : stB pl 24 = true → p.funcs ≠ []
  blk : stB pl 536 = true → p.funcs ≠ []
  fb : FitB p pl
  fi : FitI p pl
  obj : stB pl 384 = true → p.funcs ≠ [] ∧ lastB p ≠ [] ∧ (theB p).code ≠ []
  frm : stB pl 128 = true → p.funcs ≠ [] ∧ lastB p ≠ [] ∧ (theB p).code ≠ []
  phi : stB pl 32 = true → p.funcs ≠ [] ∧ lastB p ≠ []
/-- A line by its first word. -/
def dispD (p : Prog) (pl lg : Int) (x : Wd) (ws : List Wd) : Out :=
  if x = [116, 114, 97, 112] then trapD p pl lg false ws else if x = [114, 101, 116] then retD p pl lg false ws else if x = [98, 114, 97, 110, 99, 104] then branchD p pl lg false ws else if x = [106, 117, 109, 112] then jumpD p pl lg false ws else if x = [111, 98, 106] then objD p pl lg false ws else if x = [97, 116] then frmD p pl lg false ws else if x = [103, 117, 97, 114, 100] then insD p pl lg false [] x ws else if x = [111, 117, 116] then insD p pl lg false [] x ws else if x = [103, 115, 116, 111, 114, 101] then insD p pl lg false [] x ws else if x = [115, 116, 111, 114, 101] then insD p pl lg false [] x ws else if x = [112, 104, 105] then phiD p pl lg false ws else if x = [98, 108, 111, 99, 107] then blockD p pl lg ws else if x = [118, 97, 114] then varD p pl lg ws else if x = [112, 97, 114, 97, 109] then paramD p pl lg ws else if x = [102, 117, 110, 99] then funcD p pl lg ws else if x = [101, 120, 116, 101, 114, 110] then externD p pl lg ws else if x = [103, 108, 111, 98, 97, 108] then globalD p pl lg ws else if x = [102, 105, 101, 108, 100] then fieldD p pl lg ws else if x = [99, 108, 97, 115, 115] then classD p pl lg ws else if x = [115, 115, 97] then ssaD p pl lg false ws else none
theorem Meth.more' {first : Value} {out : Out} {e : Ending} {M : Nat} (h : Meth base rb lo hi N first w out e w') (hN : N ≤ M) : Meth base rb lo hi M first w out e w' := by
  obtain ⟨h1, h2⟩ := h
  refine ⟨h1, ?_⟩
  cases out with
  | none => exact h2
  | some o => obtain ⟨h3, rc, a, D, hS, h4⟩ := h2; exact ⟨h3, rc, a, D, hS.more _ hN, h4⟩
theorem enters {P : Program} {f : FuncId} {fn : Func} {c : Code} (hf : P.funcs[f]? = some fn) (hname : (fn.name == "runtime.NumGoroutine") = false) (hb : fn.body = some c) (args : Array Value) (w : World) :
    (callFunc f args).run P w = .ok (.enter f args) w := by
  have h1 : fn.name ≠ "runtime.NumGoroutine" := by simpa using hname
  simp [callFunc, go_sem, hf, h1, hb]
theorem tab_calls (x : Wd) (h : St w base rb lo hi rc a D p N ws) (hov : rc.over = false) (hN : N < 1073741824) (hws : ws.length ≤ 4194304) (hlg : 0 ≤ rc.long ∧ rc.long ≤ 1000000) (hL : LaidS w) (hF : Fits p rc.place) (hf : rc.first = str x) :
    (tabV x = -1 ∧ dispD p rc.place rc.long x ws = none) ∨ ∃ n : Nat, tabV x = n ∧ (∀ args w, (callFunc n args).run Tryd.prog w = .ok (.enter n args) w) ∧ Calls Tryd.prog n #[ptr rb] w (Meth base rb lo hi (N + 1) rc.first w (dispD p rc.place rc.long x ws)) := by
  have hm : ∀ {out : Out} {e : Ending} {w' : World}, Meth base rb lo hi N rc.first w out e w' → Meth base rb lo hi (N + 1) rc.first w out e w' := fun hM => hM.more' (Nat.le_succ N)
  have t1 := trap_any h hF.fb
  have t2 := ret_any h hF.fb
  have t3 := branch_any h hF.fb
  have t4 := jump_any h hF.fb
  have t5 := object_any h hN hws hF.obj
  have t6 := frame_any h hN hws hF.frm
  have t7 := act_any x h hN hws hlg hL hF.fi hf
  have t8 := phi_any h hN hws hlg hF.phi
  have t9 := ssa_any h
  rw [hov] at t1 t2 t3 t4 t5 t6 t7 t8 t9
  unfold tabV dispD
  by_cases h1 : x = [116, 114, 97, 112]
  · rw [if_pos h1, if_pos h1]; exact .inr ⟨_, rfl, enters Tryd.func96 (by decide) rfl, t1.mono fun _ _ => hm⟩
  rw [if_neg h1, if_neg h1]
  by_cases h1 : x = [114, 101, 116]
  · rw [if_pos h1, if_pos h1]; exact .inr ⟨_, rfl, enters Tryd.func95 (by decide) rfl, t2.mono fun _ _ => hm⟩
  rw [if_neg h1, if_neg h1]
  by_cases h1 : x = [98, 114, 97, 110, 99, 104]
  · rw [if_pos h1, if_pos h1]; exact .inr ⟨_, rfl, enters Tryd.func94 (by decide) rfl, t3.mono fun _ _ => hm⟩
  rw [if_neg h1, if_neg h1]
  by_cases h1 : x = [106, 117, 109, 112]
  · rw [if_pos h1, if_pos h1]; exact .inr ⟨_, rfl, enters Tryd.func93 (by decide) rfl, t4.mono fun _ _ => hm⟩
  rw [if_neg h1, if_neg h1]
  by_cases h1 : x = [111, 98, 106]
  · rw [if_pos h1, if_pos h1]; exact .inr ⟨_, rfl, enters Tryd.func92 (by decide) rfl, t5⟩
  rw [if_neg h1, if_neg h1]
  by_cases h1 : x = [97, 116]
  · rw [if_pos h1, if_pos h1]; exact .inr ⟨_, rfl, enters Tryd.func91 (by decide) rfl, t6⟩
  rw [if_neg h1, if_neg h1]
  by_cases h1 : x = [103, 117, 97, 114, 100]
  · rw [if_pos h1, if_pos h1]; exact .inr ⟨_, rfl, enters Tryd.func90 (by decide) rfl, t7⟩
  rw [if_neg h1, if_neg h1]
  by_cases h1 : x = [111, 117, 116]
  · rw [if_pos h1, if_pos h1]; exact .inr ⟨_, rfl, enters Tryd.func90 (by decide) rfl, t7⟩
  rw [if_neg h1, if_neg h1]
  by_cases h1 : x = [103, 115, 116, 111, 114, 101]
  · rw [if_pos h1, if_pos h1]; exact .inr ⟨_, rfl, enters Tryd.func90 (by decide) rfl, t7⟩
  rw [if_neg h1, if_neg h1]
  by_cases h1 : x = [115, 116, 111, 114, 101]
  · rw [if_pos h1, if_pos h1]; exact .inr ⟨_, rfl, enters Tryd.func90 (by decide) rfl, t7⟩
  rw [if_neg h1, if_neg h1]
  by_cases h1 : x = [112, 104, 105]
  · rw [if_pos h1, if_pos h1]; exact .inr ⟨_, rfl, enters Tryd.func89 (by decide) rfl, t8⟩
  rw [if_neg h1, if_neg h1]
  by_cases h1 : x = [98, 108, 111, 99, 107]
  · rw [if_pos h1, if_pos h1]; exact .inr ⟨_, rfl, enters Tryd.func88 (by decide) rfl, block_any h hov hN hF.blk⟩
  rw [if_neg h1, if_neg h1]
  by_cases h1 : x = [118, 97, 114]
  · rw [if_pos h1, if_pos h1]; exact .inr ⟨_, rfl, enters Tryd.func87 (by decide) rfl, var_any h hov hN hF.var⟩
  rw [if_neg h1, if_neg h1]
  by_cases h1 : x = [112, 97, 114, 97, 109]
  · rw [if_pos h1, if_pos h1]; exact .inr ⟨_, rfl, enters Tryd.func86 (by decide) rfl, param_any h hov hN hF.par⟩
  rw [if_neg h1, if_neg h1]
  by_cases h1 : x = [102, 117, 110, 99]
  · rw [if_pos h1, if_pos h1]; exact .inr ⟨_, rfl, enters Tryd.func85 (by decide) rfl, func_any h hov hN⟩
  rw [if_neg h1, if_neg h1]
  by_cases h1 : x = [101, 120, 116, 101, 114, 110]
  · rw [if_pos h1, if_pos h1]; exact .inr ⟨_, rfl, enters Tryd.func84 (by decide) rfl, extern_any h hov hN⟩
  rw [if_neg h1, if_neg h1]
  by_cases h1 : x = [103, 108, 111, 98, 97, 108]
  · rw [if_pos h1, if_pos h1]; exact .inr ⟨_, rfl, enters Tryd.func83 (by decide) rfl, global_any h hov hN⟩
  rw [if_neg h1, if_neg h1]
  by_cases h1 : x = [102, 105, 101, 108, 100]
  · rw [if_pos h1, if_pos h1]; exact .inr ⟨_, rfl, enters Tryd.func82 (by decide) rfl, field_any h hov hN hF.cls⟩
  rw [if_neg h1, if_neg h1]
  by_cases h1 : x = [99, 108, 97, 115, 115]
  · rw [if_pos h1, if_pos h1]; exact .inr ⟨_, rfl, enters Tryd.func81 (by decide) rfl, class_any h hov hN⟩
  rw [if_neg h1, if_neg h1]
  by_cases h1 : x = [115, 115, 97]
  · rw [if_pos h1, if_pos h1]; exact .inr ⟨_, rfl, enters Tryd.func80 (by decide) rfl, t9⟩
  rw [if_neg h1, if_neg h1]
  exact .inl ⟨rfl, rfl⟩
/-- A line. -/
def lineO (p : Prog) (pl lg : Int) (x : Wd) (l : List Wd) : Out := if l.head? = some [61] then setD p pl lg false x l else dispD p pl lg x l
/-- What a line's reading leaves: a panic with its error; or the program, the place, how long. -/
def lineE (o : Out) : Except Int (Prog × Int × Int) := match o with
  | none => .error 3
  | some (p, pl, lg, ov, ws) => if ws ≠ [] then .error 3 else if ov then .error 2 else .ok (p, pl, lg)
def LineP (base rb lo hi N : Nat) (w : World) (r : Except Int (Prog × Int × Int)) (e : Ending) (w' : World) : Prop :=
  Beside base rb w w' ∧ match r with
  | .error k => e = .panicked (chain k)
  | .ok (p, pl, lg) => e = .returned (.tuple #[]) ∧ ∃ rc a D, St w' base rb lo hi rc a D p N [] ∧ rc.place = pl ∧ rc.long = lg ∧ rc.over = false
end Go.Proofs.YtkfpcaganhmkcaaDoor.Rd5
