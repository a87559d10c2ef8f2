/-
  Package syntax: the map of its readers, and a line.
  Package syntax: what reads a line, by its first word.
-/
import Derived.Test.YtkmndgjabkjafaaGreatDoorActsT
import Derived.Test.YtkmndgjabkjafaaGreatDoorParts
import Derived.Maps.Own
import Derived.Maps.Views
namespace Go.Proofs.YtkmndgjabkjafaaGreatDoor.Rd5
open Go.RowKit Api Hold Mem Syn WordM Tree Go.Maps

variable {w w' w1 w2 : World} {lo hi rb base N : Nat} {rc : RC} {v : Value} {l ws : List Wd} {row : Option Nat} {a : Tree.Act} {D D2 : List Rec} {p : Prog} {L T : Rec}
/-- How a function value among a map's elements reads: its number; -1: nil. -/
def fnElem (v : Value) : Option (DataW Unit × List MemPlace) :=
  match v with
  | .nilFunc => some (.lit (.int .i64 (-1)), [])
  | .func (.func n) ⟨[]⟩ ⟨[]⟩ => some (.lit (.int .i64 (n : Int)), [])
  | _ => none
theorem fnElem_inv {v : Value} {k : Int} {ps : List MemPlace} (h : fnElem v = some (.lit (.int .i64 k), ps)) : (k = -1 ∧ v = .nilFunc) ∨ ∃ n : Nat, k = (n : Int) ∧ v = .func (.func n) #[] #[] := by
  unfold fnElem at h
  split at h
  · injection h with h; injection h with h _; injection h with h; injection h with _ h; exact .inl ⟨h.symm, rfl⟩
  · injection h with h; injection h with h _; injection h with h; injection h with _ h; exact .inr ⟨_, h.symm, rfl⟩
  · cases h
def tabD : DataW Unit := (((((((((((((((((((((.map [] : DataW Unit).put (.string [115, 115, 97]) (.lit (.int .i64 72))).put (.string [99, 108, 97, 115, 115]) (.lit (.int .i64 73))).put (.string [102, 105, 101, 108, 100]) (.lit (.int .i64 74))).put (.string [103, 108, 111, 98, 97, 108]) (.lit (.int .i64 75))).put (.string [101, 120, 116, 101, 114, 110]) (.lit (.int .i64 76))).put (.string [102, 117, 110, 99]) (.lit (.int .i64 77))).put (.string [112, 97, 114, 97, 109]) (.lit (.int .i64 78))).put (.string [118, 97, 114]) (.lit (.int .i64 79))).put (.string [98, 108, 111, 99, 107]) (.lit (.int .i64 80))).put (.string [112, 104, 105]) (.lit (.int .i64 81))).put (.string [115, 116, 111, 114, 101]) (.lit (.int .i64 82))).put (.string [103, 115, 116, 111, 114, 101]) (.lit (.int .i64 82))).put (.string [111, 117, 116]) (.lit (.int .i64 82))).put (.string [103, 117, 97, 114, 100]) (.lit (.int .i64 82))).put (.string [97, 116]) (.lit (.int .i64 83))).put (.string [111, 98, 106]) (.lit (.int .i64 84))).put (.string [106, 117, 109, 112]) (.lit (.int .i64 85))).put (.string [98, 114, 97, 110, 99, 104]) (.lit (.int .i64 86))).put (.string [114, 101, 116]) (.lit (.int .i64 87))).put (.string [116, 114, 97, 112]) (.lit (.int .i64 88)))
/-- What reads a line, by its first word; -1: nothing does. -/
def tabV (x : Wd) : Int := if x = [116, 114, 97, 112] then 88 else if x = [114, 101, 116] then 87 else if x = [98, 114, 97, 110, 99, 104] then 86 else if x = [106, 117, 109, 112] then 85 else if x = [111, 98, 106] then 84 else if x = [97, 116] then 83 else if x = [103, 117, 97, 114, 100] then 82 else if x = [111, 117, 116] then 82 else if x = [103, 115, 116, 111, 114, 101] then 82 else if x = [115, 116, 111, 114, 101] then 82 else if x = [112, 104, 105] then 81 else if x = [98, 108, 111, 99, 107] then 80 else if x = [118, 97, 114] then 79 else if x = [112, 97, 114, 97, 109] then 78 else if x = [102, 117, 110, 99] then 77 else if x = [101, 120, 116, 101, 114, 110] then 76 else if x = [103, 108, 111, 98, 97, 108] then 75 else if x = [102, 105, 101, 108, 100] then 74 else if x = [99, 108, 97, 115, 115] then 73 else if x = [115, 115, 97] then 72 else (-1)
theorem put_at {D : DataW Unit} {d z : DataW Unit} (h : IsMap D) (x y : Wd) : (D.put (.string y) d).atKey (.string x) z = if x = y then d else D.atKey (.string x) z := by
  by_cases e : x = y
  · subst e
    rw [if_pos rfl]
    exact atKey_put_same h (by simp [WideAt.IsKeyLit]) d z
  · rw [if_neg e]
    exact atKey_put_other (by intro h; injection h with h; exact e h) d z
theorem put_step {D : DataW Unit} {a b : Int} {x y : Wd} {z : DataW Unit} (h : IsMap D) (e : D.atKey (.string x) z = .lit (.int .i64 b)) : (D.put (.string y) (.lit (.int .i64 a))).atKey (.string x) z = .lit (.int .i64 (if x = y then a else b)) := by
  rw [put_at h, e]; split <;> rfl
theorem tab_at (x : Wd) : tabD.atKey (.string x) (.lit (.int .i64 (-1))) = .lit (.int .i64 (tabV x)) := by
  unfold tabD tabV
  iterate 20 refine put_step (by repeat (first | exact isMap_empty | apply IsMap.put)) ?_
  rfl
theorem law5 : Keyed Tryz.prog 9 := string_keyed Tryz.underlying9
set_option maxRecDepth 100000 in
set_option maxHeartbeats 8000000 in
theorem readers_any (w : World) : Calls Tryz.prog 41 #[] w fun e w' => e = .returned (.map (some w.heap.size)) ∧ w'.ownsMap Tryz.prog 9 fnElem w.heap.size 20 tabD ∧ Below w.heap.size w w' ∧ w.heap.size < w'.heap.size := by
  have hmm := @run_makeMap Tryz.prog
  have ho0 := World.ownsMap_made w Tryz.prog 9 fnElem
  have hb0 : Below w.heap.size w (w.alloc (.map #[] 0)) := (Below.refl _ _).alloc (Nat.le_refl _) _
  go_enter Tryz.func41, Tryz.ntmps41
  go_wp2_with fail
  obtain ⟨w1, hr1, ho1, hg1⟩ := ho0.update (t := 104) (key := .string ⟨#[115, 115, 97]⟩) (val := .func (.func 72) #[] #[]) law5 (by rfl) (by decide) (Go.WideMaps.keyOf_string_mk Tryz.underlying9 (by decide)) rfl
  rw [hr1]
  replace hb0 := hb0.grown hg1 hb0.size (fun k hk => by injection hk with hk; exact Nat.le_of_eq hk)
  clear hr1 hg1
  go_wp2_with fail
  obtain ⟨w2, hr2, ho2, hg2⟩ := ho1.update (t := 104) (key := .string ⟨#[99, 108, 97, 115, 115]⟩) (val := .func (.func 73) #[] #[]) law5 (by rfl) (by decide) (Go.WideMaps.keyOf_string_mk Tryz.underlying9 (by decide)) rfl
  rw [hr2]
  replace hb0 := hb0.grown hg2 hb0.size (fun k hk => by injection hk with hk; exact Nat.le_of_eq hk)
  clear hr2 hg2
  go_wp2_with fail
  obtain ⟨w3, hr3, ho3, hg3⟩ := ho2.update (t := 104) (key := .string ⟨#[102, 105, 101, 108, 100]⟩) (val := .func (.func 74) #[] #[]) law5 (by rfl) (by decide) (Go.WideMaps.keyOf_string_mk Tryz.underlying9 (by decide)) rfl
  rw [hr3]
  replace hb0 := hb0.grown hg3 hb0.size (fun k hk => by injection hk with hk; exact Nat.le_of_eq hk)
  clear hr3 hg3
  go_wp2_with fail
  obtain ⟨w4, hr4, ho4, hg4⟩ := ho3.update (t := 104) (key := .string ⟨#[103, 108, 111, 98, 97, 108]⟩) (val := .func (.func 75) #[] #[]) law5 (by rfl) (by decide) (Go.WideMaps.keyOf_string_mk Tryz.underlying9 (by decide)) rfl
  rw [hr4]
  replace hb0 := hb0.grown hg4 hb0.size (fun k hk => by injection hk with hk; exact Nat.le_of_eq hk)
  clear hr4 hg4
  go_wp2_with fail
  obtain ⟨w5, hr5, ho5, hg5⟩ := ho4.update (t := 104) (key := .string ⟨#[101, 120, 116, 101, 114, 110]⟩) (val := .func (.func 76) #[] #[]) law5 (by rfl) (by decide) (Go.WideMaps.keyOf_string_mk Tryz.underlying9 (by decide)) rfl
  rw [hr5]
  replace hb0 := hb0.grown hg5 hb0.size (fun k hk => by injection hk with hk; exact Nat.le_of_eq hk)
  clear hr5 hg5
  go_wp2_with fail
  obtain ⟨w6, hr6, ho6, hg6⟩ := ho5.update (t := 104) (key := .string ⟨#[102, 117, 110, 99]⟩) (val := .func (.func 77) #[] #[]) law5 (by rfl) (by decide) (Go.WideMaps.keyOf_string_mk Tryz.underlying9 (by decide)) rfl
  rw [hr6]
  replace hb0 := hb0.grown hg6 hb0.size (fun k hk => by injection hk with hk; exact Nat.le_of_eq hk)
  clear hr6 hg6
  go_wp2_with fail
  obtain ⟨w7, hr7, ho7, hg7⟩ := ho6.update (t := 104) (key := .string ⟨#[112, 97, 114, 97, 109]⟩) (val := .func (.func 78) #[] #[]) law5 (by rfl) (by decide) (Go.WideMaps.keyOf_string_mk Tryz.underlying9 (by decide)) rfl
  rw [hr7]
  replace hb0 := hb0.grown hg7 hb0.size (fun k hk => by injection hk with hk; exact Nat.le_of_eq hk)
  clear hr7 hg7
  go_wp2_with fail
  obtain ⟨w8, hr8, ho8, hg8⟩ := ho7.update (t := 104) (key := .string ⟨#[118, 97, 114]⟩) (val := .func (.func 79) #[] #[]) law5 (by rfl) (by decide) (Go.WideMaps.keyOf_string_mk Tryz.underlying9 (by decide)) rfl
  rw [hr8]
  replace hb0 := hb0.grown hg8 hb0.size (fun k hk => by injection hk with hk; exact Nat.le_of_eq hk)
  clear hr8 hg8
  go_wp2_with fail
  obtain ⟨w9, hr9, ho9, hg9⟩ := ho8.update (t := 104) (key := .string ⟨#[98, 108, 111, 99, 107]⟩) (val := .func (.func 80) #[] #[]) law5 (by rfl) (by decide) (Go.WideMaps.keyOf_string_mk Tryz.underlying9 (by decide)) rfl
  rw [hr9]
  replace hb0 := hb0.grown hg9 hb0.size (fun k hk => by injection hk with hk; exact Nat.le_of_eq hk)
  clear hr9 hg9
  go_wp2_with fail
  obtain ⟨w10, hr10, ho10, hg10⟩ := ho9.update (t := 104) (key := .string ⟨#[112, 104, 105]⟩) (val := .func (.func 81) #[] #[]) law5 (by rfl) (by decide) (Go.WideMaps.keyOf_string_mk Tryz.underlying9 (by decide)) rfl
  rw [hr10]
  replace hb0 := hb0.grown hg10 hb0.size (fun k hk => by injection hk with hk; exact Nat.le_of_eq hk)
  clear hr10 hg10
  go_wp2_with fail
  obtain ⟨w11, hr11, ho11, hg11⟩ := ho10.update (t := 104) (key := .string ⟨#[115, 116, 111, 114, 101]⟩) (val := .func (.func 82) #[] #[]) law5 (by rfl) (by decide) (Go.WideMaps.keyOf_string_mk Tryz.underlying9 (by decide)) rfl
  rw [hr11]
  replace hb0 := hb0.grown hg11 hb0.size (fun k hk => by injection hk with hk; exact Nat.le_of_eq hk)
  clear hr11 hg11
  go_wp2_with fail
  obtain ⟨w12, hr12, ho12, hg12⟩ := ho11.update (t := 104) (key := .string ⟨#[103, 115, 116, 111, 114, 101]⟩) (val := .func (.func 82) #[] #[]) law5 (by rfl) (by decide) (Go.WideMaps.keyOf_string_mk Tryz.underlying9 (by decide)) rfl
  rw [hr12]
  replace hb0 := hb0.grown hg12 hb0.size (fun k hk => by injection hk with hk; exact Nat.le_of_eq hk)
  clear hr12 hg12
  go_wp2_with fail
  obtain ⟨w13, hr13, ho13, hg13⟩ := ho12.update (t := 104) (key := .string ⟨#[111, 117, 116]⟩) (val := .func (.func 82) #[] #[]) law5 (by rfl) (by decide) (Go.WideMaps.keyOf_string_mk Tryz.underlying9 (by decide)) rfl
  rw [hr13]
  replace hb0 := hb0.grown hg13 hb0.size (fun k hk => by injection hk with hk; exact Nat.le_of_eq hk)
  clear hr13 hg13
  go_wp2_with fail
  obtain ⟨w14, hr14, ho14, hg14⟩ := ho13.update (t := 104) (key := .string ⟨#[103, 117, 97, 114, 100]⟩) (val := .func (.func 82) #[] #[]) law5 (by rfl) (by decide) (Go.WideMaps.keyOf_string_mk Tryz.underlying9 (by decide)) rfl
  rw [hr14]
  replace hb0 := hb0.grown hg14 hb0.size (fun k hk => by injection hk with hk; exact Nat.le_of_eq hk)
  clear hr14 hg14
  go_wp2_with fail
  obtain ⟨w15, hr15, ho15, hg15⟩ := ho14.update (t := 104) (key := .string ⟨#[97, 116]⟩) (val := .func (.func 83) #[] #[]) law5 (by rfl) (by decide) (Go.WideMaps.keyOf_string_mk Tryz.underlying9 (by decide)) rfl
  rw [hr15]
  replace hb0 := hb0.grown hg15 hb0.size (fun k hk => by injection hk with hk; exact Nat.le_of_eq hk)
  clear hr15 hg15
  go_wp2_with fail
  obtain ⟨w16, hr16, ho16, hg16⟩ := ho15.update (t := 104) (key := .string ⟨#[111, 98, 106]⟩) (val := .func (.func 84) #[] #[]) law5 (by rfl) (by decide) (Go.WideMaps.keyOf_string_mk Tryz.underlying9 (by decide)) rfl
  rw [hr16]
  replace hb0 := hb0.grown hg16 hb0.size (fun k hk => by injection hk with hk; exact Nat.le_of_eq hk)
  clear hr16 hg16
  go_wp2_with fail
  obtain ⟨w17, hr17, ho17, hg17⟩ := ho16.update (t := 104) (key := .string ⟨#[106, 117, 109, 112]⟩) (val := .func (.func 85) #[] #[]) law5 (by rfl) (by decide) (Go.WideMaps.keyOf_string_mk Tryz.underlying9 (by decide)) rfl
  rw [hr17]
  replace hb0 := hb0.grown hg17 hb0.size (fun k hk => by injection hk with hk; exact Nat.le_of_eq hk)
  clear hr17 hg17
  go_wp2_with fail
  obtain ⟨w18, hr18, ho18, hg18⟩ := ho17.update (t := 104) (key := .string ⟨#[98, 114, 97, 110, 99, 104]⟩) (val := .func (.func 86) #[] #[]) law5 (by rfl) (by decide) (Go.WideMaps.keyOf_string_mk Tryz.underlying9 (by decide)) rfl
  rw [hr18]
  replace hb0 := hb0.grown hg18 hb0.size (fun k hk => by injection hk with hk; exact Nat.le_of_eq hk)
  clear hr18 hg18
  go_wp2_with fail
  obtain ⟨w19, hr19, ho19, hg19⟩ := ho18.update (t := 104) (key := .string ⟨#[114, 101, 116]⟩) (val := .func (.func 87) #[] #[]) law5 (by rfl) (by decide) (Go.WideMaps.keyOf_string_mk Tryz.underlying9 (by decide)) rfl
  rw [hr19]
  replace hb0 := hb0.grown hg19 hb0.size (fun k hk => by injection hk with hk; exact Nat.le_of_eq hk)
  clear hr19 hg19
  go_wp2_with fail
  obtain ⟨w20, hr20, ho20, hg20⟩ := ho19.update (t := 104) (key := .string ⟨#[116, 114, 97, 112]⟩) (val := .func (.func 88) #[] #[]) law5 (by rfl) (by decide) (Go.WideMaps.keyOf_string_mk Tryz.underlying9 (by decide)) rfl
  rw [hr20]
  replace hb0 := hb0.grown hg20 hb0.size (fun k hk => by injection hk with hk; exact Nat.le_of_eq hk)
  clear hr20 hg20
  go_wp2_with fail
  exact bodyPost_ret (v := .map (some w.heap.size)) (by rw [results_tmp rfl]; rfl) rfl ⟨rfl, ho20, hb0, ho20.lt⟩
end Go.Proofs.YtkmndgjabkjafaaGreatDoor.Rd5

namespace Go.Proofs.YtkmndgjabkjafaaGreatDoor.Rd5
open Go.RowKit Api Hold Mem Syn WordM Tree

variable {w w' w1 w2 : World} {lo hi rb base N : Nat} {rc : RC} {v : Value} {l ws : List Wd} {row : Option Nat} {a : Tree.Act} {D D2 : List Rec} {p : Prog} {L T : Rec}
/-- What stands where: where a part of a function may stand there is a function, and so on. -/
structure Fits (p : Prog) (pl : Int) : Prop where
  cls : stB pl 4 = true → p.classes ≠ []
  par : stB pl 8 = true → p.funcs ≠ []
  var : stB pl 24 = true → p.funcs ≠ []
  blk : stB pl 536 = true → p.funcs ≠ []
  fb : FitB p pl
  fi : FitI p pl
  obj : stB pl 384 = true → p.funcs ≠ [] ∧ lastB p ≠ [] ∧ (theB p).code ≠ []
  frm : stB pl 128 = true → p.funcs ≠ [] ∧ lastB p ≠ [] ∧ (theB p).code ≠ []
  phi : stB pl 32 = true → p.funcs ≠ [] ∧ lastB p ≠ []
/-- A line by its first word. -/
def dispD (p : Prog) (pl lg : Int) (x : Wd) (ws : List Wd) : Out :=
  if x = [116, 114, 97, 112] then trapD p pl lg false ws else if x = [114, 101, 116] then retD p pl lg false ws else if x = [98, 114, 97, 110, 99, 104] then branchD p pl lg false ws else if x = [106, 117, 109, 112] then jumpD p pl lg false ws else if x = [111, 98, 106] then objD p pl lg false ws else if x = [97, 116] then frmD p pl lg false ws else if x = [103, 117, 97, 114, 100] then insD p pl lg false [] x ws else if x = [111, 117, 116] then insD p pl lg false [] x ws else if x = [103, 115, 116, 111, 114, 101] then insD p pl lg false [] x ws else if x = [115, 116, 111, 114, 101] then insD p pl lg false [] x ws else if x = [112, 104, 105] then phiD p pl lg false ws else if x = [98, 108, 111, 99, 107] then blockD p pl lg ws else if x = [118, 97, 114] then varD p pl lg ws else if x = [112, 97, 114, 97, 109] then paramD p pl lg ws else if x = [102, 117, 110, 99] then funcD p pl lg ws else if x = [101, 120, 116, 101, 114, 110] then externD p pl lg ws else if x = [103, 108, 111, 98, 97, 108] then globalD p pl lg ws else if x = [102, 105, 101, 108, 100] then fieldD p pl lg ws else if x = [99, 108, 97, 115, 115] then classD p pl lg ws else if x = [115, 115, 97] then ssaD p pl lg false ws else none
theorem Meth.more' {first : Value} {out : Out} {e : Ending} {M : Nat} (h : Meth base rb lo hi N first w out e w') (hN : N ≤ M) : Meth base rb lo hi M first w out e w' := by
  obtain ⟨h1, h2⟩ := h
  refine ⟨h1, ?_⟩
  cases out with
  | none => exact h2
  | some o => obtain ⟨h3, rc, a, D, hS, h4⟩ := h2; exact ⟨h3, rc, a, D, hS.more _ hN, h4⟩
theorem enters {P : Program} {f : FuncId} {fn : Func} {c : Code} (hf : P.funcs[f]? = some fn) (hname : (fn.name == "runtime.NumGoroutine") = false) (hb : fn.body = some c) (args : Array Value) (w : World) :
    (callFunc f args).run P w = .ok (.enter f args) w := by
  have h1 : fn.name ≠ "runtime.NumGoroutine" := by simpa using hname
  simp [callFunc, go_sem, hf, h1, hb]
theorem tab_calls (x : Wd) (h : St w base rb lo hi rc a D p N ws) (hov : rc.over = false) (hN : N < 1073741824) (hws : ws.length ≤ 4194304) (hlg : 0 ≤ rc.long ∧ rc.long ≤ 1000000) (hL : LaidS w) (hF : Fits p rc.place) (hf : rc.first = str x) :
    (tabV x = -1 ∧ dispD p rc.place rc.long x ws = none) ∨ ∃ n : Nat, tabV x = n ∧ (∀ args w, (callFunc n args).run Tryz.prog w = .ok (.enter n args) w) ∧ Calls Tryz.prog n #[ptr rb] w (Meth base rb lo hi (N + 1) rc.first w (dispD p rc.place rc.long x ws)) := by
  have hm : ∀ {out : Out} {e : Ending} {w' : World}, Meth base rb lo hi N rc.first w out e w' → Meth base rb lo hi (N + 1) rc.first w out e w' := fun hM => hM.more' (Nat.le_succ N)
  have t1 := trap_any h hF.fb
  have t2 := ret_any h hF.fb
  have t3 := branch_any h hF.fb
  have t4 := jump_any h hF.fb
  have t5 := object_any h hN hws hF.obj
  have t6 := frame_any h hN hws hF.frm
  have t7 := act_any x h hN hws hlg hL hF.fi hf
  have t8 := phi_any h hN hws hlg hF.phi
  have t9 := ssa_any h
  rw [hov] at t1 t2 t3 t4 t5 t6 t7 t8 t9
  unfold tabV dispD
  by_cases h1 : x = [116, 114, 97, 112]
  · rw [if_pos h1, if_pos h1]; exact .inr ⟨_, rfl, enters Tryz.func88 (by decide) rfl, t1.mono fun _ _ => hm⟩
  rw [if_neg h1, if_neg h1]
  by_cases h1 : x = [114, 101, 116]
  · rw [if_pos h1, if_pos h1]; exact .inr ⟨_, rfl, enters Tryz.func87 (by decide) rfl, t2.mono fun _ _ => hm⟩
  rw [if_neg h1, if_neg h1]
  by_cases h1 : x = [98, 114, 97, 110, 99, 104]
  · rw [if_pos h1, if_pos h1]; exact .inr ⟨_, rfl, enters Tryz.func86 (by decide) rfl, t3.mono fun _ _ => hm⟩
  rw [if_neg h1, if_neg h1]
  by_cases h1 : x = [106, 117, 109, 112]
  · rw [if_pos h1, if_pos h1]; exact .inr ⟨_, rfl, enters Tryz.func85 (by decide) rfl, t4.mono fun _ _ => hm⟩
  rw [if_neg h1, if_neg h1]
  by_cases h1 : x = [111, 98, 106]
  · rw [if_pos h1, if_pos h1]; exact .inr ⟨_, rfl, enters Tryz.func84 (by decide) rfl, t5⟩
  rw [if_neg h1, if_neg h1]
  by_cases h1 : x = [97, 116]
  · rw [if_pos h1, if_pos h1]; exact .inr ⟨_, rfl, enters Tryz.func83 (by decide) rfl, t6⟩
  rw [if_neg h1, if_neg h1]
  by_cases h1 : x = [103, 117, 97, 114, 100]
  · rw [if_pos h1, if_pos h1]; exact .inr ⟨_, rfl, enters Tryz.func82 (by decide) rfl, t7⟩
  rw [if_neg h1, if_neg h1]
  by_cases h1 : x = [111, 117, 116]
  · rw [if_pos h1, if_pos h1]; exact .inr ⟨_, rfl, enters Tryz.func82 (by decide) rfl, t7⟩
  rw [if_neg h1, if_neg h1]
  by_cases h1 : x = [103, 115, 116, 111, 114, 101]
  · rw [if_pos h1, if_pos h1]; exact .inr ⟨_, rfl, enters Tryz.func82 (by decide) rfl, t7⟩
  rw [if_neg h1, if_neg h1]
  by_cases h1 : x = [115, 116, 111, 114, 101]
  · rw [if_pos h1, if_pos h1]; exact .inr ⟨_, rfl, enters Tryz.func82 (by decide) rfl, t7⟩
  rw [if_neg h1, if_neg h1]
  by_cases h1 : x = [112, 104, 105]
  · rw [if_pos h1, if_pos h1]; exact .inr ⟨_, rfl, enters Tryz.func81 (by decide) rfl, t8⟩
  rw [if_neg h1, if_neg h1]
  by_cases h1 : x = [98, 108, 111, 99, 107]
  · rw [if_pos h1, if_pos h1]; exact .inr ⟨_, rfl, enters Tryz.func80 (by decide) rfl, block_any h hov hN hF.blk⟩
  rw [if_neg h1, if_neg h1]
  by_cases h1 : x = [118, 97, 114]
  · rw [if_pos h1, if_pos h1]; exact .inr ⟨_, rfl, enters Tryz.func79 (by decide) rfl, var_any h hov hN hF.var⟩
  rw [if_neg h1, if_neg h1]
  by_cases h1 : x = [112, 97, 114, 97, 109]
  · rw [if_pos h1, if_pos h1]; exact .inr ⟨_, rfl, enters Tryz.func78 (by decide) rfl, param_any h hov hN hF.par⟩
  rw [if_neg h1, if_neg h1]
  by_cases h1 : x = [102, 117, 110, 99]
  · rw [if_pos h1, if_pos h1]; exact .inr ⟨_, rfl, enters Tryz.func77 (by decide) rfl, func_any h hov hN⟩
  rw [if_neg h1, if_neg h1]
  by_cases h1 : x = [101, 120, 116, 101, 114, 110]
  · rw [if_pos h1, if_pos h1]; exact .inr ⟨_, rfl, enters Tryz.func76 (by decide) rfl, extern_any h hov hN⟩
  rw [if_neg h1, if_neg h1]
  by_cases h1 : x = [103, 108, 111, 98, 97, 108]
  · rw [if_pos h1, if_pos h1]; exact .inr ⟨_, rfl, enters Tryz.func75 (by decide) rfl, global_any h hov hN⟩
  rw [if_neg h1, if_neg h1]
  by_cases h1 : x = [102, 105, 101, 108, 100]
  · rw [if_pos h1, if_pos h1]; exact .inr ⟨_, rfl, enters Tryz.func74 (by decide) rfl, field_any h hov hN hF.cls⟩
  rw [if_neg h1, if_neg h1]
  by_cases h1 : x = [99, 108, 97, 115, 115]
  · rw [if_pos h1, if_pos h1]; exact .inr ⟨_, rfl, enters Tryz.func73 (by decide) rfl, class_any h hov hN⟩
  rw [if_neg h1, if_neg h1]
  by_cases h1 : x = [115, 115, 97]
  · rw [if_pos h1, if_pos h1]; exact .inr ⟨_, rfl, enters Tryz.func72 (by decide) rfl, t9⟩
  rw [if_neg h1, if_neg h1]
  exact .inl ⟨rfl, rfl⟩
/-- A line. -/
def lineO (p : Prog) (pl lg : Int) (x : Wd) (l : List Wd) : Out := if l.head? = some [61] then setD p pl lg false x l else dispD p pl lg x l
/-- What a line's reading leaves: a panic with its error; or the program, the place, how long. -/
def lineE (o : Out) : Except Int (Prog × Int × Int) := match o with
  | none => .error 3
  | some (p, pl, lg, ov, ws) => if ws ≠ [] then .error 3 else if ov then .error 2 else .ok (p, pl, lg)
def LineP (base rb lo hi N : Nat) (w : World) (r : Except Int (Prog × Int × Int)) (e : Ending) (w' : World) : Prop :=
  Beside base rb w w' ∧ match r with
  | .error k => e = .panicked (chain k)
  | .ok (p, pl, lg) => e = .returned (.tuple #[]) ∧ ∃ rc a D, St w' base rb lo hi rc a D p N [] ∧ rc.place = pl ∧ rc.long = lg ∧ rc.over = false
end Go.Proofs.YtkmndgjabkjafaaGreatDoor.Rd5
