/-
  Package syntax: the map of its readers, and a line.
-/
import Derived.Test.YtkfpcaganhmkcaaDoorActs
import Derived.Test.YtkfpcaganhmkcaaDoorFrame
import Derived.Test.YtkfpcaganhmkcaaDoorParts
import Derived.Maps.Own
import Derived.Maps.Views
namespace Go.Proofs.YtkfpcaganhmkcaaDoor.Rd5
open Go.RowKit Api Hold Mem Syn WordM Tree Go.Maps

variable {w w' w1 w2 : World} {lo hi rb base N : Nat} {rc : RC} {v : Value} {l ws : List Wd} {row : Option Nat} {a : Tree.Act} {D D2 : List Rec} {p : Prog} {L T : Rec}
/-- How a function value among a map's elements reads: its number; -1: nil. -/
def fnElem (v : Value) : Option (DataW Unit × List MemPlace) :=
  match v with
  | .nilFunc => some (.lit (.int .i64 (-1)), [])
  | .func (.func n) ⟨[]⟩ ⟨[]⟩ => some (.lit (.int .i64 (n : Int)), [])
  | _ => none
theorem fnElem_inv {v : Value} {k : Int} {ps : List MemPlace} (h : fnElem v = some (.lit (.int .i64 k), ps)) : (k = -1 ∧ v = .nilFunc) ∨ ∃ n : Nat, k = (n : Int) ∧ v = .func (.func n) #[] #[] := by
  unfold fnElem at h
  split at h
  · injection h with h; injection h with h _; injection h with h; injection h with _ h; exact .inl ⟨h.symm, rfl⟩
  · injection h with h; injection h with h _; injection h with h; injection h with _ h; exact .inr ⟨_, h.symm, rfl⟩
  · cases h
def tabD : DataW Unit := (((((((((((((((((((((.map [] : DataW Unit).put (.string [115, 115, 97]) (.lit (.int .i64 80))).put (.string [99, 108, 97, 115, 115]) (.lit (.int .i64 81))).put (.string [102, 105, 101, 108, 100]) (.lit (.int .i64 82))).put (.string [103, 108, 111, 98, 97, 108]) (.lit (.int .i64 83))).put (.string [101, 120, 116, 101, 114, 110]) (.lit (.int .i64 84))).put (.string [102, 117, 110, 99]) (.lit (.int .i64 85))).put (.string [112, 97, 114, 97, 109]) (.lit (.int .i64 86))).put (.string [118, 97, 114]) (.lit (.int .i64 87))).put (.string [98, 108, 111, 99, 107]) (.lit (.int .i64 88))).put (.string [112, 104, 105]) (.lit (.int .i64 89))).put (.string [115, 116, 111, 114, 101]) (.lit (.int .i64 90))).put (.string [103, 115, 116, 111, 114, 101]) (.lit (.int .i64 90))).put (.string [111, 117, 116]) (.lit (.int .i64 90))).put (.string [103, 117, 97, 114, 100]) (.lit (.int .i64 90))).put (.string [97, 116]) (.lit (.int .i64 91))).put (.string [111, 98, 106]) (.lit (.int .i64 92))).put (.string [106, 117, 109, 112]) (.lit (.int .i64 93))).put (.string [98, 114, 97, 110, 99, 104]) (.lit (.int .i64 94))).put (.string [114, 101, 116]) (.lit (.int .i64 95))).put (.string [116, 114, 97, 112]) (.lit (.int .i64 96)))
/-- What reads a line, by its first word; -1: nothing does. -/
def tabV (x : Wd) : Int := if x = [116, 114, 97, 112] then 96 else if x = [114, 101, 116] then 95 else if x = [98, 114, 97, 110, 99, 104] then 94 else if x = [106, 117, 109, 112] then 93 else if x = [111, 98, 106] then 92 else if x = [97, 116] then 91 else if x = [103, 117, 97, 114, 100] then 90 else if x = [111, 117, 116] then 90 else if x = [103, 115, 116, 111, 114, 101] then 90 else if x = [115, 116, 111, 114, 101] then 90 else if x = [112, 104, 105] then 89 else if x = [98, 108, 111, 99, 107] then 88 else if x = [118, 97, 114] then 87 else if x = [112, 97, 114, 97, 109] then 86 else if x = [102, 117, 110, 99] then 85 else if x = [101, 120, 116, 101, 114, 110] then 84 else if x = [103, 108, 111, 98, 97, 108] then 83 else if x = [102, 105, 101, 108, 100] then 82 else if x = [99, 108, 97, 115, 115] then 81 else if x = [115, 115, 97] then 80 else (-1)
theorem put_at {D : DataW Unit} {d z : DataW Unit} (h : IsMap D) (x y : Wd) : (D.put (.string y) d).atKey (.string x) z = if x = y then d else D.atKey (.string x) z := by
  by_cases e : x = y
  · subst e
    rw [if_pos rfl]
    exact atKey_put_same h (by simp [WideAt.IsKeyLit]) d z
  · rw [if_neg e]
    exact atKey_put_other (by intro h; injection h with h; exact e h) d z
theorem put_step {D : DataW Unit} {a b : Int} {x y : Wd} {z : DataW Unit} (h : IsMap D) (e : D.atKey (.string x) z = .lit (.int .i64 b)) : (D.put (.string y) (.lit (.int .i64 a))).atKey (.string x) z = .lit (.int .i64 (if x = y then a else b)) := by
  rw [put_at h, e]; split <;> rfl
theorem tab_at (x : Wd) : tabD.atKey (.string x) (.lit (.int .i64 (-1))) = .lit (.int .i64 (tabV x)) := by
  unfold tabD tabV
  iterate 20 refine put_step (by repeat (first | exact isMap_empty | apply IsMap.put)) ?_
  rfl
theorem law5 : Keyed Tryd.prog 9 := string_keyed Tryd.underlying9
theorem wpList_insert {P : Program} (w : World) {ops : Array Oper} {rest : List Oper} {o : Oper} {a : Go.Act} {Q : Exit → Go.Act → World → Prop}
    (hg : o.guard = none) (m x v : Operand) (t : TypeId) (hop : o.op = Op.insert t m x v)
    (k e : TypeId) (K : Keyed P k) (ht : P.underlying t = some (.map k e)) (R : Value → Option (DataW Unit × List MemPlace)) (b n : Nat) (D : DataW Unit)
    (hm : a.eval m = .map (some b)) (hown : w.ownsMap P k R b n D) (hn : n < maxLen) (key val : Value) (kl : Lit) (hx : a.eval x = key) (hv : a.eval v = val) (hkey : keyOf P k key = some kl)
    (d : DataW Unit) (ps : List MemPlace) (hval : R val = some (d, ps))
    (hK : ∀ w', w'.ownsMap P k R b (n + 1) (D.put kl d) → w.grownBy w' (some b) → wpList P ops Q rest (a.put o.dst undef) w') :
    wpList P ops Q (o :: rest) a w := by
  refine wpList_plain hg fun K' hK' => ?_
  obtain ⟨w', hrun, r1, r2⟩ := hown.update K ht hn hkey hval
  unfold Oper.wp
  simp [execOp, hop, hm, hx, hv, hrun, Result.andThen]
  exact hK' _ _ (hK w' r1 r2)
set_option maxRecDepth 100000 in
set_option maxHeartbeats 8000000 in
theorem readers_any (w : World) : Calls Tryd.prog 57 #[] w fun e w' => e = .returned (.map (some w.heap.size)) ∧ w'.ownsMap Tryd.prog 9 fnElem w.heap.size 20 tabD ∧ Below w.heap.size w w' ∧ w.heap.size < w'.heap.size := by
  have hmm := @run_makeMap Tryd.prog
  have ho0 := World.ownsMap_made w Tryd.prog 9 fnElem
  have hb0 : Below w.heap.size w (w.alloc (.map #[] 0)) := (Below.refl _ _).alloc (Nat.le_refl _) _
  go_enter Tryd.func57, Tryd.ntmps57
  go_wp2_with fail
  obtain ⟨w1, hr1, ho1, hg1⟩ := ho0.update (t := 134) (key := .string ⟨#[115, 115, 97]⟩) (val := .func (.func 80) #[] #[]) law5 (by rfl) (by decide) (Go.WideMaps.keyOf_string_mk Tryd.underlying9 (by decide)) rfl
  rw [hr1]
  replace hb0 := hb0.grown hg1 hb0.size (fun k hk => by injection hk with hk; exact Nat.le_of_eq hk)
  clear hr1 hg1
  go_wp2_with fail
  obtain ⟨w2, hr2, ho2, hg2⟩ := ho1.update (t := 134) (key := .string ⟨#[99, 108, 97, 115, 115]⟩) (val := .func (.func 81) #[] #[]) law5 (by rfl) (by decide) (Go.WideMaps.keyOf_string_mk Tryd.underlying9 (by decide)) rfl
  rw [hr2]
  replace hb0 := hb0.grown hg2 hb0.size (fun k hk => by injection hk with hk; exact Nat.le_of_eq hk)
  clear hr2 hg2
  go_wp2_with fail
  obtain ⟨w3, hr3, ho3, hg3⟩ := ho2.update (t := 134) (key := .string ⟨#[102, 105, 101, 108, 100]⟩) (val := .func (.func 82) #[] #[]) law5 (by rfl) (by decide) (Go.WideMaps.keyOf_string_mk Tryd.underlying9 (by decide)) rfl
  rw [hr3]
  replace hb0 := hb0.grown hg3 hb0.size (fun k hk => by injection hk with hk; exact Nat.le_of_eq hk)
  clear hr3 hg3
  go_wp2_with fail
  obtain ⟨w4, hr4, ho4, hg4⟩ := ho3.update (t := 134) (key := .string ⟨#[103, 108, 111, 98, 97, 108]⟩) (val := .func (.func 83) #[] #[]) law5 (by rfl) (by decide) (Go.WideMaps.keyOf_string_mk Tryd.underlying9 (by decide)) rfl
  rw [hr4]
  replace hb0 := hb0.grown hg4 hb0.size (fun k hk => by injection hk with hk; exact Nat.le_of_eq hk)
  clear hr4 hg4
  go_wp2_with fail
  obtain ⟨w5, hr5, ho5, hg5⟩ := ho4.update (t := 134) (key := .string ⟨#[101, 120, 116, 101, 114, 110]⟩) (val := .func (.func 84) #[] #[]) law5 (by rfl) (by decide) (Go.WideMaps.keyOf_string_mk Tryd.underlying9 (by decide)) rfl
  rw [hr5]
  replace hb0 := hb0.grown hg5 hb0.size (fun k hk => by injection hk with hk; exact Nat.le_of_eq hk)
  clear hr5 hg5
  go_wp2_with fail
  obtain ⟨w6, hr6, ho6, hg6⟩ := ho5.update (t := 134) (key := .string ⟨#[102, 117, 110, 99]⟩) (val := .func (.func 85) #[] #[]) law5 (by rfl) (by decide) (Go.WideMaps.keyOf_string_mk Tryd.underlying9 (by decide)) rfl
  rw [hr6]
  replace hb0 := hb0.grown hg6 hb0.size (fun k hk => by injection hk with hk; exact Nat.le_of_eq hk)
  clear hr6 hg6
  go_wp2_with fail
  obtain ⟨w7, hr7, ho7, hg7⟩ := ho6.update (t := 134) (key := .string ⟨#[112, 97, 114, 97, 109]⟩) (val := .func (.func 86) #[] #[]) law5 (by rfl) (by decide) (Go.WideMaps.keyOf_string_mk Tryd.underlying9 (by decide)) rfl
  rw [hr7]
  replace hb0 := hb0.grown hg7 hb0.size (fun k hk => by injection hk with hk; exact Nat.le_of_eq hk)
  clear hr7 hg7
  go_wp2_with fail
  obtain ⟨w8, hr8, ho8, hg8⟩ := ho7.update (t := 134) (key := .string ⟨#[118, 97, 114]⟩) (val := .func (.func 87) #[] #[]) law5 (by rfl) (by decide) (Go.WideMaps.keyOf_string_mk Tryd.underlying9 (by decide)) rfl
  rw [hr8]
  replace hb0 := hb0.grown hg8 hb0.size (fun k hk => by injection hk with hk; exact Nat.le_of_eq hk)
  clear hr8 hg8
  go_wp2_with fail
  obtain ⟨w9, hr9, ho9, hg9⟩ := ho8.update (t := 134) (key := .string ⟨#[98, 108, 111, 99, 107]⟩) (val := .func (.func 88) #[] #[]) law5 (by rfl) (by decide) (Go.WideMaps.keyOf_string_mk Tryd.underlying9 (by decide)) rfl
  rw [hr9]
  replace hb0 := hb0.grown hg9 hb0.size (fun k hk => by injection hk with hk; exact Nat.le_of_eq hk)
  clear hr9 hg9
  go_wp2_with fail
  obtain ⟨w10, hr10, ho10, hg10⟩ := ho9.update (t := 134) (key := .string ⟨#[112, 104, 105]⟩) (val := .func (.func 89) #[] #[]) law5 (by rfl) (by decide) (Go.WideMaps.keyOf_string_mk Tryd.underlying9 (by decide)) rfl
  rw [hr10]
  replace hb0 := hb0.grown hg10 hb0.size (fun k hk => by injection hk with hk; exact Nat.le_of_eq hk)
  clear hr10 hg10
  go_wp2_with fail
  obtain ⟨w11, hr11, ho11, hg11⟩ := ho10.update (t := 134) (key := .string ⟨#[115, 116, 111, 114, 101]⟩) (val := .func (.func 90) #[] #[]) law5 (by rfl) (by decide) (Go.WideMaps.keyOf_string_mk Tryd.underlying9 (by decide)) rfl
  rw [hr11]
  replace hb0 := hb0.grown hg11 hb0.size (fun k hk => by injection hk with hk; exact Nat.le_of_eq hk)
  clear hr11 hg11
  go_wp2_with fail
  obtain ⟨w12, hr12, ho12, hg12⟩ := ho11.update (t := 134) (key := .string ⟨#[103, 115, 116, 111, 114, 101]⟩) (val := .func (.func 90) #[] #[]) law5 (by rfl) (by decide) (Go.WideMaps.keyOf_string_mk Tryd.underlying9 (by decide)) rfl
  rw [hr12]
  replace hb0 := hb0.grown hg12 hb0.size (fun k hk => by injection hk with hk; exact Nat.le_of_eq hk)
  clear hr12 hg12
  go_wp2_with fail
  obtain ⟨w13, hr13, ho13, hg13⟩ := ho12.update (t := 134) (key := .string ⟨#[111, 117, 116]⟩) (val := .func (.func 90) #[] #[]) law5 (by rfl) (by decide) (Go.WideMaps.keyOf_string_mk Tryd.underlying9 (by decide)) rfl
  rw [hr13]
  replace hb0 := hb0.grown hg13 hb0.size (fun k hk => by injection hk with hk; exact Nat.le_of_eq hk)
  clear hr13 hg13
  go_wp2_with fail
  obtain ⟨w14, hr14, ho14, hg14⟩ := ho13.update (t := 134) (key := .string ⟨#[103, 117, 97, 114, 100]⟩) (val := .func (.func 90) #[] #[]) law5 (by rfl) (by decide) (Go.WideMaps.keyOf_string_mk Tryd.underlying9 (by decide)) rfl
  rw [hr14]
  replace hb0 := hb0.grown hg14 hb0.size (fun k hk => by injection hk with hk; exact Nat.le_of_eq hk)
  clear hr14 hg14
  go_wp2_with fail
  obtain ⟨w15, hr15, ho15, hg15⟩ := ho14.update (t := 134) (key := .string ⟨#[97, 116]⟩) (val := .func (.func 91) #[] #[]) law5 (by rfl) (by decide) (Go.WideMaps.keyOf_string_mk Tryd.underlying9 (by decide)) rfl
  rw [hr15]
  replace hb0 := hb0.grown hg15 hb0.size (fun k hk => by injection hk with hk; exact Nat.le_of_eq hk)
  clear hr15 hg15
  go_wp2_with fail
  obtain ⟨w16, hr16, ho16, hg16⟩ := ho15.update (t := 134) (key := .string ⟨#[111, 98, 106]⟩) (val := .func (.func 92) #[] #[]) law5 (by rfl) (by decide) (Go.WideMaps.keyOf_string_mk Tryd.underlying9 (by decide)) rfl
  rw [hr16]
  replace hb0 := hb0.grown hg16 hb0.size (fun k hk => by injection hk with hk; exact Nat.le_of_eq hk)
  clear hr16 hg16
  go_wp2_with fail
  obtain ⟨w17, hr17, ho17, hg17⟩ := ho16.update (t := 134) (key := .string ⟨#[106, 117, 109, 112]⟩) (val := .func (.func 93) #[] #[]) law5 (by rfl) (by decide) (Go.WideMaps.keyOf_string_mk Tryd.underlying9 (by decide)) rfl
  rw [hr17]
  replace hb0 := hb0.grown hg17 hb0.size (fun k hk => by injection hk with hk; exact Nat.le_of_eq hk)
  clear hr17 hg17
  go_wp2_with fail
  obtain ⟨w18, hr18, ho18, hg18⟩ := ho17.update (t := 134) (key := .string ⟨#[98, 114, 97, 110, 99, 104]⟩) (val := .func (.func 94) #[] #[]) law5 (by rfl) (by decide) (Go.WideMaps.keyOf_string_mk Tryd.underlying9 (by decide)) rfl
  rw [hr18]
  replace hb0 := hb0.grown hg18 hb0.size (fun k hk => by injection hk with hk; exact Nat.le_of_eq hk)
  clear hr18 hg18
  go_wp2_with fail
  obtain ⟨w19, hr19, ho19, hg19⟩ := ho18.update (t := 134) (key := .string ⟨#[114, 101, 116]⟩) (val := .func (.func 95) #[] #[]) law5 (by rfl) (by decide) (Go.WideMaps.keyOf_string_mk Tryd.underlying9 (by decide)) rfl
  rw [hr19]
  replace hb0 := hb0.grown hg19 hb0.size (fun k hk => by injection hk with hk; exact Nat.le_of_eq hk)
  clear hr19 hg19
  go_wp2_with fail
  obtain ⟨w20, hr20, ho20, hg20⟩ := ho19.update (t := 134) (key := .string ⟨#[116, 114, 97, 112]⟩) (val := .func (.func 96) #[] #[]) law5 (by rfl) (by decide) (Go.WideMaps.keyOf_string_mk Tryd.underlying9 (by decide)) rfl
  rw [hr20]
  replace hb0 := hb0.grown hg20 hb0.size (fun k hk => by injection hk with hk; exact Nat.le_of_eq hk)
  clear hr20 hg20
  go_wp2_with fail
  exact bodyPost_ret (v := .map (some w.heap.size)) (by rw [results_tmp rfl]; rfl) rfl ⟨rfl, ho20, hb0, ho20.lt⟩
end Go.Proofs.YtkfpcaganhmkcaaDoor.Rd5
