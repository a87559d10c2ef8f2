/-
  The document's Few of programs (layer 6): how many parts a program has, and bytes in its texts.
-/
import Derived.Test.YtikfncgdjnljiaaDoorProg
import Derived.Test.YtikfncgdjnljiaaDoorMem
import Derived.Test.YtikfncgdjnljiaaDoorPlainS
import Derived.Lib.Hide
import Derived.Lib.Walk
import Derived.Deep.QuietTactic
import Derived.BigQuiet
import Derived.StillTailTactics
namespace Go.Proofs.YtikfncgdjnljiaaDoor.Few6
open Go.RowKit Api Mem

/-- So many, told as they are up to a limit; above it some number above it. -/
def Cnt (B most S n : Nat) : Prop := (S ≤ most ∧ n = S) ∨ (most < S ∧ most < n ∧ n ≤ B)
def sumOf {α : Type} (f : α → Nat) (l : List α) : Nat := (l.map f).sum
theorem sum_nil {α : Type} (f : α → Nat) : sumOf f [] = 0 := rfl
theorem sum_zero {α : Type} (f : α → Nat) (l : List α) : sumOf f (l.take 0) = 0 := by simp [sumOf]
theorem sum_next {α : Type} (f : α → Nat) {l : List α} {k : Nat} {x : α} (h : l[k]? = some x) : sumOf f (l.take (k + 1)) = sumOf f (l.take k) + f x := by
  obtain ⟨hk, e⟩ := List.getElem?_eq_some_iff.1 h
  unfold sumOf
  rw [List.take_succ_eq_append_getElem hk, e]
  simp
theorem sum_le {α : Type} (f : α → Nat) (l : List α) (k : Nat) : sumOf f (l.take k) ≤ sumOf f l := by
  have : sumOf f l = sumOf f (l.take k) + sumOf f (l.drop k) := by unfold sumOf; rw [← List.sum_append, ← List.map_append, List.take_append_drop]
  omega
theorem sum_all {α : Type} (f : α → Nat) {l : List α} {k : Nat} (h : l.length ≤ k) : sumOf f (l.take k) = sumOf f l := by rw [List.take_of_length_le h]
theorem sum_len {α : Type} (f : α → Nat) (l : List α) (h : ∀ x, 1 ≤ f x) : l.length ≤ sumOf f l := by
  unfold sumOf
  induction l with
  | nil => simp
  | cons a l ih => have := h a; simp; omega
theorem sum_mem {α : Type} (f : α → Nat) {l : List α} {x : α} (h : x ∈ l) : f x ≤ sumOf f l := by
  unfold sumOf
  induction l with
  | nil => cases h
  | cons a l ih =>
    rcases List.mem_cons.1 h with rfl | h
    · simp
    · have := ih h; simp; omega
def cArgs (l : List Arg) : Nat := l.length + sumOf (fun a => a.s.length) l
def cVar (v : Var) : Nat := v.name.length + v.type.length
def cVars (l : List Var) : Nat := l.length + sumOf cVar l
def cBind (b : Bind) : Nat := 1 + b.name.length + b.a.s.length
def cFrame (f : Api.Frame) : Nat := f.func.length + f.block.length + sumOf cBind f.vars
def cVirt (v : Virt) : Nat := v.cls.length + cArgs v.vals
def cInstr (x : Instr) : Nat := 1 + x.dst.length + x.frames.length + x.objs.length + x.name.length + cArgs x.args + sumOf cFrame x.frames + sumOf cVirt x.objs
def cPhi (p : Phi) : Nat := 1 + p.dst.length + sumOf cBind p.ins
def cText (x : Wd) : Nat := 1 + x.length
def cBlock (b : Api.Block) : Nat := 1 + b.name.length + b.fin.a.s.length + sumOf cText b.fin.dest + sumOf cPhi b.phis + sumOf cInstr b.code
def cFunc (f : Api.Func) : Nat := 1 + f.name.length + f.result.length + cVars f.params + cVars f.vars + sumOf cBlock f.blocks
def cClass (c : Class) : Nat := c.name.length + cVars c.fields
def cExt (e : Extern) : Nat := 1 + e.name.length
def cProg (p : Prog) : Nat := cVars p.globals + sumOf cClass p.classes + sumOf cExt p.externs + sumOf cFunc p.funcs
abbrev Sh (x : Wd) : Prop := x.length ≤ 140737488351232
theorem cnt_add {B most S c : Nat} (h : Cnt B most S c) (hc : c ≤ most) {a : Nat} (ha : a ≤ 140737488351233) (hm : most ≤ 1073741824) (hB : 281474976710656 ≤ B) : Cnt B most (S + a) (c + a) := by
  rcases h with ⟨h1, rfl⟩ | ⟨_, h2, _⟩
  · by_cases hx : c + a ≤ most
    · exact .inl ⟨hx, rfl⟩
    · exact .inr ⟨by omega, by omega, by omega⟩
  · omega
theorem cnt_plus {B B' most S c T d : Nat} (h : Cnt B' most S c) (hc : c ≤ most) (g : Cnt B most T d) (hm : most ≤ 1073741824) (hB : B + 1073741824 ≤ B') (hB2 : 281474976710656 ≤ B') : Cnt B' most (S + T) (c + d) := by
  rcases h with ⟨h1, rfl⟩ | ⟨_, h2, _⟩
  · rcases g with ⟨g1, rfl⟩ | ⟨g1, g2, g3⟩
    · by_cases hx : c + d ≤ most
      · exact .inl ⟨hx, rfl⟩
      · exact .inr ⟨by omega, by omega, by omega⟩
    · exact .inr ⟨by omega, by omega, by omega⟩
  · omega
theorem cnt_end {B most S S' c : Nat} (h : Cnt B most S c) (hc : ¬ c ≤ most) (hs : S ≤ S') : Cnt B most S' c := by
  rcases h with ⟨h1, rfl⟩ | ⟨h1, h2, h3⟩
  · omega
  · exact .inr ⟨by omega, h2, h3⟩
theorem cnt_more {B most S : Nat} (h : most < S) (hm : most ≤ 1073741824) (hB : 281474976710656 ≤ B) : Cnt B most S (most + 1) := .inr ⟨h, by omega, by omega⟩
theorem cnt_of {B most S T n : Nat} (h : Cnt B most S n) (e : S = T) : Cnt B most T n := e ▸ h
theorem cnt_val {B most S n m : Nat} (h : Cnt B most S n) (e : n = m) : Cnt B most S m := e ▸ h
theorem cnt_start {B most S : Nat} (hS : S ≤ B) : Cnt B most S S := by
  by_cases h : S ≤ most
  · exact .inl ⟨h, rfl⟩
  · exact .inr ⟨by omega, by omega, hS⟩
abbrev B0 : Nat := 281474976710656

set_option maxRecDepth 100000 in
set_option maxHeartbeats 8000000 in
theorem cntArgs_any (lo hi : Nat) (w : World) (v : Value) (l : List Arg) (h : Args lo hi w v l) (most : Nat) (hm : most ≤ 1073741824) (hG : ∀ a ∈ l, Sh a.s) :
    Calls Tryd.prog 97 #[v, i64 most] w fun e w' => ∃ n : Nat, e = .returned (i64 n) ∧ Cnt B0 most (cArgs l) n ∧ w' = w := by
  obtain ⟨A, n, cap, b, off, rfl, hn, hm2, ha, hc⟩ := h
  have HC := Lib.hid hc
  have HA := Lib.hid ha
  have HN := Lib.hid hn
  have HG := Lib.hid hG
  clear hc ha hn hG
  by_cases hbig : most < n
  · have e1 : decide ((most : Int) < (n : Int)) = true := decide_eq_true (by omega)
    go_enter Tryd.func97, Tryd.ntmps97
    go_wp2
    go_ret
    exact ⟨most + 1, by go_num, cnt_more (by have := HN.out; unfold cArgs; omega) hm (by decide), rfl⟩
  · have e1 : decide ((most : Int) < (n : Int)) = false := decide_eq_false (by omega)
    go_enter Tryd.func97, Tryd.ntmps97
    go_wp2
    go_loop [5, 6] (fun m i => ∃ (k c : Nat), k ≤ n ∧ m = .int .i64 c ∧ i = .int .i64 k ∧ Hid (Cnt B0 most (l.length + sumOf (fun a => a.s.length) (l.take k)) c)) (fun _ i => n - (intOf i).toNat)
    case atStart => exact ⟨0, n, Nat.zero_le _, rfl, rfl, Lib.hid (by rw [sum_zero, ← HN.out]; exact .inl ⟨by omega, by omega⟩)⟩
    case round =>
    obtain ⟨k, c, hk, rfl, rfl, HCN⟩ := hrel
    by_cases hlt : k < n
    · obtain ⟨x, hx⟩ : ∃ x, l[k]? = some x := ⟨_, List.getElem?_eq_getElem (by have := HN.out; omega)⟩
      by_cases hcm : c ≤ most
      · obtain ⟨rfl, _, hb⟩ := HA.out (by omega)
        obtain ⟨cs, _, q1, rfl⟩ := HC.out k x hx
        obtain ⟨c0, c1, c2⟩ := at3 q1
        have hs := HG.out x (List.mem_of_getElem? hx)
        have HX := Lib.hid hx
        clear q1 hx
        go_wp2
        go_round
        case rel => exact ⟨k + 1, c + x.s.length, by omega, by go_num, by go_num, Lib.hid (cnt_of (cnt_add HCN.out hcm (a := x.s.length) (by have := hs; omega) hm (by decide)) (by rw [sum_next _ HX.out]; omega))⟩
        case measure => simp [intOf]; omega
      · have HX := Lib.hid hx
        clear hx
        go_wp2
        go_ret
        exact ⟨c, rfl, cnt_end HCN.out hcm (by unfold cArgs; have := sum_le (fun a => a.s.length) l k; omega), rfl⟩
    · go_wp2
      go_ret
      exact ⟨c, rfl, cnt_of HCN.out (by rw [sum_all _ (by have := HN.out; omega)]; rfl), rfl⟩

set_option maxRecDepth 100000 in
set_option maxHeartbeats 8000000 in
theorem cntVars_any (lo hi : Nat) (w : World) (v : Value) (l : List Var) (h : Vars lo hi w v l) (most : Nat) (hm : most ≤ 1073741824) (hG : ∀ a ∈ l, Sh a.name ∧ Sh a.type) :
    Calls Tryd.prog 70 #[v, i64 most] w fun e w' => ∃ n : Nat, e = .returned (i64 n) ∧ Cnt B0 most (cVars l) n ∧ w' = w := by
  obtain ⟨A, n, cap, b, off, rfl, hn, hm2, ha, hc⟩ := h
  have HC := Lib.hid hc
  have HA := Lib.hid ha
  have HN := Lib.hid hn
  have HG := Lib.hid hG
  clear hc ha hn hG
  by_cases hbig : most < n
  · have e1 : decide ((most : Int) < (n : Int)) = true := decide_eq_true (by omega)
    go_enter Tryd.func70, Tryd.ntmps70
    go_wp2
    go_ret
    exact ⟨most + 1, by go_num, cnt_more (by have := HN.out; unfold cVars; omega) hm (by decide), rfl⟩
  · have e1 : decide ((most : Int) < (n : Int)) = false := decide_eq_false (by omega)
    go_enter Tryd.func70, Tryd.ntmps70
    go_wp2
    go_loop [5, 6] (fun m i => ∃ (k c : Nat), k ≤ n ∧ m = .int .i64 c ∧ i = .int .i64 k ∧ Hid (Cnt B0 most (l.length + sumOf cVar (l.take k)) c)) (fun _ i => n - (intOf i).toNat)
    case atStart => exact ⟨0, n, Nat.zero_le _, rfl, rfl, Lib.hid (by rw [sum_zero, ← HN.out]; exact .inl ⟨by omega, by omega⟩)⟩
    case round =>
    obtain ⟨k, c, hk, rfl, rfl, HCN⟩ := hrel
    by_cases hlt : k < n
    · obtain ⟨x, hx⟩ : ∃ x, l[k]? = some x := ⟨_, List.getElem?_eq_getElem (by have := HN.out; omega)⟩
      by_cases hcm : c ≤ most
      · obtain ⟨rfl, _, hb⟩ := HA.out (by omega)
        obtain ⟨cs, _, q1, rfl⟩ := HC.out k x hx
        obtain ⟨c0, c1⟩ := at2 q1
        have hs := HG.out x (List.mem_of_getElem? hx)
        have HX := Lib.hid hx
        clear q1 hx
        obtain ⟨hs1, hs2⟩ := hs
        by_cases hc2 : c + x.name.length ≤ most
        · go_wp2
          go_round
          case rel => exact ⟨k + 1, c + x.name.length + x.type.length, by omega, by go_num, by go_num, Lib.hid (cnt_of (cnt_add (cnt_add HCN.out hcm (a := x.name.length) (by omega) hm (by decide)) hc2 (a := x.type.length) (by omega) hm (by decide)) (by rw [sum_next _ HX.out]; unfold cVar; omega))⟩
          case measure => simp [intOf]; omega
        · go_wp2
          go_round
          case rel => exact ⟨k + 1, c + x.name.length, by omega, by go_num, by go_num, Lib.hid (cnt_end (cnt_add HCN.out hcm (a := x.name.length) (by omega) hm (by decide)) hc2 (by rw [sum_next _ HX.out]; unfold cVar; omega))⟩
          case measure => simp [intOf]; omega
      · have HX := Lib.hid hx
        clear hx
        go_wp2
        go_ret
        exact ⟨c, rfl, cnt_end HCN.out hcm (by unfold cVars; have := sum_le cVar l k; omega), rfl⟩
    · go_wp2
      go_ret
      exact ⟨c, rfl, cnt_of HCN.out (by rw [sum_all _ (by have := HN.out; omega)]; rfl), rfl⟩
end Go.Proofs.YtikfncgdjnljiaaDoor.Few6
