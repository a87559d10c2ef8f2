/-
  Few Few2 Few3 Few4 Few5
-/
import Derived.Test.YtdgmdpphimenjaaDoorProg
import Derived.Test.YtdgmdpphimenjaaDoorMem
import Derived.Test.YtdgmdpphimenjaaDoorPlainS
import Derived.Lib.Hide
import Derived.Lib.Walk
import Derived.Deep.QuietTactic
import Derived.BigQuiet
import Derived.StillTailTactics
/-
  The document's Few of programs (layer 6): how many parts a program has, and bytes in its texts.
-/
namespace Go.Proofs.YtdgmdpphimenjaaDoor.Few6
open Go.RowKit Api Mem

/-- So many, told as they are up to a limit; above it some number above it. -/
def Cnt (B most S n : Nat) : Prop := (S ≤ most ∧ n = S) ∨ (most < S ∧ most < n ∧ n ≤ B)
def sumOf {α : Type} (f : α → Nat) (l : List α) : Nat := (l.map f).sum
theorem sum_nil {α : Type} (f : α → Nat) : sumOf f [] = 0 := rfl
theorem sum_zero {α : Type} (f : α → Nat) (l : List α) : sumOf f (l.take 0) = 0 := by simp [sumOf]
theorem sum_next {α : Type} (f : α → Nat) {l : List α} {k : Nat} {x : α} (h : l[k]? = some x) : sumOf f (l.take (k + 1)) = sumOf f (l.take k) + f x := by
  obtain ⟨hk, e⟩ := List.getElem?_eq_some_iff.1 h
  unfold sumOf
  rw [List.take_succ_eq_append_getElem hk, e]
  simp
theorem sum_le {α : Type} (f : α → Nat) (l : List α) (k : Nat) : sumOf f (l.take k) ≤ sumOf f l := by
  have : sumOf f l = sumOf f (l.take k) + sumOf f (l.drop k) := by unfold sumOf; rw [← List.sum_append, ← List.map_append, List.take_append_drop]
  omega
theorem sum_all {α : Type} (f : α → Nat) {l : List α} {k : Nat} (h : l.length ≤ k) : sumOf f (l.take k) = sumOf f l := by rw [List.take_of_length_le h]
theorem sum_len {α : Type} (f : α → Nat) (l : List α) (h : ∀ x, 1 ≤ f x) : l.length ≤ sumOf f l := by
  unfold sumOf
  induction l with
  | nil => simp
  | cons a l ih => have := h a; simp; omega
theorem sum_mem {α : Type} (f : α → Nat) {l : List α} {x : α} (h : x ∈ l) : f x ≤ sumOf f l := by
  unfold sumOf
  induction l with
  | nil => cases h
  | cons a l ih =>
    rcases List.mem_cons.1 h with rfl | h
    · simp
    · have := ih h; simp; omega
def cArgs (l : List Arg) : Nat := l.length + sumOf (fun a => a.s.length) l
def cVar (v : Var) : Nat := v.name.length + v.type.length
def cVars (l : List Var) : Nat := l.length + sumOf cVar l
def cBind (b : Bind) : Nat := 1 + b.name.length + b.a.s.length
def cFrame (f : Api.Frame) : Nat := f.func.length + f.block.length + sumOf cBind f.vars
def cVirt (v : Virt) : Nat := v.cls.length + cArgs v.vals
def cInstr (x : Instr) : Nat := 1 + x.dst.length + x.frames.length + x.objs.length + x.name.length + cArgs x.args + sumOf cFrame x.frames + sumOf cVirt x.objs
def cPhi (p : Phi) : Nat := 1 + p.dst.length + sumOf cBind p.ins
def cText (x : Wd) : Nat := 1 + x.length
def cBlock (b : Api.Block) : Nat := 1 + b.name.length + b.fin.a.s.length + sumOf cText b.fin.dest + sumOf cPhi b.phis + sumOf cInstr b.code
def cFunc (f : Api.Func) : Nat := 1 + f.name.length + f.result.length + cVars f.params + cVars f.vars + sumOf cBlock f.blocks
def cClass (c : Class) : Nat := c.name.length + cVars c.fields
def cExt (e : Extern) : Nat := 1 + e.name.length
def cProg (p : Prog) : Nat := cVars p.globals + sumOf cClass p.classes + sumOf cExt p.externs + sumOf cFunc p.funcs
abbrev Sh (x : Wd) : Prop := x.length ≤ 140737488351232
theorem cnt_add {B most S c : Nat} (h : Cnt B most S c) (hc : c ≤ most) {a : Nat} (ha : a ≤ 140737488351233) (hm : most ≤ 1073741824) (hB : 281474976710656 ≤ B) : Cnt B most (S + a) (c + a) := by
  rcases h with ⟨h1, rfl⟩ | ⟨_, h2, _⟩
  · by_cases hx : c + a ≤ most
    · exact .inl ⟨hx, rfl⟩
    · exact .inr ⟨by omega, by omega, by omega⟩
  · omega
theorem cnt_plus {B B' most S c T d : Nat} (h : Cnt B' most S c) (hc : c ≤ most) (g : Cnt B most T d) (hm : most ≤ 1073741824) (hB : B + 1073741824 ≤ B') (hB2 : 281474976710656 ≤ B') : Cnt B' most (S + T) (c + d) := by
  rcases h with ⟨h1, rfl⟩ | ⟨_, h2, _⟩
  · rcases g with ⟨g1, rfl⟩ | ⟨g1, g2, g3⟩
    · by_cases hx : c + d ≤ most
      · exact .inl ⟨hx, rfl⟩
      · exact .inr ⟨by omega, by omega, by omega⟩
    · exact .inr ⟨by omega, by omega, by omega⟩
  · omega
theorem cnt_end {B most S S' c : Nat} (h : Cnt B most S c) (hc : ¬ c ≤ most) (hs : S ≤ S') : Cnt B most S' c := by
  rcases h with ⟨h1, rfl⟩ | ⟨h1, h2, h3⟩
  · omega
  · exact .inr ⟨by omega, h2, h3⟩
theorem cnt_more {B most S : Nat} (h : most < S) (hm : most ≤ 1073741824) (hB : 281474976710656 ≤ B) : Cnt B most S (most + 1) := .inr ⟨h, by omega, by omega⟩
theorem cnt_of {B most S T n : Nat} (h : Cnt B most S n) (e : S = T) : Cnt B most T n := e ▸ h
theorem cnt_val {B most S n m : Nat} (h : Cnt B most S n) (e : n = m) : Cnt B most S m := e ▸ h
theorem cnt_start {B most S : Nat} (hS : S ≤ B) : Cnt B most S S := by
  by_cases h : S ≤ most
  · exact .inl ⟨h, rfl⟩
  · exact .inr ⟨by omega, by omega, hS⟩
abbrev B0 : Nat := 281474976710656

set_option maxRecDepth 100000 in
set_option maxHeartbeats 8000000 in
theorem cntArgs_any (lo hi : Nat) (w : World) (v : Value) (l : List Arg) (h : Args lo hi w v l) (most : Nat) (hm : most ≤ 1073741824) (hG : ∀ a ∈ l, Sh a.s) :
    Calls Tryd.prog 101 #[v, i64 most] w fun e w' => ∃ n : Nat, e = .returned (i64 n) ∧ Cnt B0 most (cArgs l) n ∧ w' = w := by
  obtain ⟨A, n, cap, b, off, rfl, hn, hm2, ha, hc⟩ := h
  have HC := Lib.hid hc
  have HA := Lib.hid ha
  have HN := Lib.hid hn
  have HG := Lib.hid hG
  clear hc ha hn hG
  by_cases hbig : most < n
  · have e1 : decide ((most : Int) < (n : Int)) = true := decide_eq_true (by omega)
    go_enter Tryd.func101, Tryd.ntmps101
    go_wp2
    go_ret
    exact ⟨most + 1, by go_num, cnt_more (by have := HN.out; unfold cArgs; omega) hm (by decide), rfl⟩
  · have e1 : decide ((most : Int) < (n : Int)) = false := decide_eq_false (by omega)
    go_enter Tryd.func101, Tryd.ntmps101
    go_wp2
    go_loop [5, 6] (fun m i => ∃ (k c : Nat), k ≤ n ∧ m = .int .i64 c ∧ i = .int .i64 k ∧ Hid (Cnt B0 most (l.length + sumOf (fun a => a.s.length) (l.take k)) c)) (fun _ i => n - (intOf i).toNat)
    case atStart => exact ⟨0, n, Nat.zero_le _, rfl, rfl, Lib.hid (by rw [sum_zero, ← HN.out]; exact .inl ⟨by omega, by omega⟩)⟩
    case round =>
    obtain ⟨k, c, hk, rfl, rfl, HCN⟩ := hrel
    by_cases hlt : k < n
    · obtain ⟨x, hx⟩ : ∃ x, l[k]? = some x := ⟨_, List.getElem?_eq_getElem (by have := HN.out; omega)⟩
      by_cases hcm : c ≤ most
      · obtain ⟨rfl, _, hb⟩ := HA.out (by omega)
        obtain ⟨cs, _, q1, rfl⟩ := HC.out k x hx
        obtain ⟨c0, c1, c2⟩ := at3 q1
        have hs := HG.out x (List.mem_of_getElem? hx)
        have HX := Lib.hid hx
        clear q1 hx
        go_wp2
        go_round
        case rel => exact ⟨k + 1, c + x.s.length, by omega, by go_num, by go_num, Lib.hid (cnt_of (cnt_add HCN.out hcm (a := x.s.length) (by have := hs; omega) hm (by decide)) (by rw [sum_next _ HX.out]; omega))⟩
        case measure => simp [intOf]; omega
      · have HX := Lib.hid hx
        clear hx
        go_wp2
        go_ret
        exact ⟨c, rfl, cnt_end HCN.out hcm (by unfold cArgs; have := sum_le (fun a => a.s.length) l k; omega), rfl⟩
    · go_wp2
      go_ret
      exact ⟨c, rfl, cnt_of HCN.out (by rw [sum_all _ (by have := HN.out; omega)]; rfl), rfl⟩

set_option maxRecDepth 100000 in
set_option maxHeartbeats 8000000 in
theorem cntVars_any (lo hi : Nat) (w : World) (v : Value) (l : List Var) (h : Vars lo hi w v l) (most : Nat) (hm : most ≤ 1073741824) (hG : ∀ a ∈ l, Sh a.name ∧ Sh a.type) :
    Calls Tryd.prog 14 #[v, i64 most] w fun e w' => ∃ n : Nat, e = .returned (i64 n) ∧ Cnt B0 most (cVars l) n ∧ w' = w := by
  obtain ⟨A, n, cap, b, off, rfl, hn, hm2, ha, hc⟩ := h
  have HC := Lib.hid hc
  have HA := Lib.hid ha
  have HN := Lib.hid hn
  have HG := Lib.hid hG
  clear hc ha hn hG
  by_cases hbig : most < n
  · have e1 : decide ((most : Int) < (n : Int)) = true := decide_eq_true (by omega)
    go_enter Tryd.func14, Tryd.ntmps14
    go_wp2
    go_ret
    exact ⟨most + 1, by go_num, cnt_more (by have := HN.out; unfold cVars; omega) hm (by decide), rfl⟩
  · have e1 : decide ((most : Int) < (n : Int)) = false := decide_eq_false (by omega)
    go_enter Tryd.func14, Tryd.ntmps14
    go_wp2
    go_loop [5, 6] (fun m i => ∃ (k c : Nat), k ≤ n ∧ m = .int .i64 c ∧ i = .int .i64 k ∧ Hid (Cnt B0 most (l.length + sumOf cVar (l.take k)) c)) (fun _ i => n - (intOf i).toNat)
    case atStart => exact ⟨0, n, Nat.zero_le _, rfl, rfl, Lib.hid (by rw [sum_zero, ← HN.out]; exact .inl ⟨by omega, by omega⟩)⟩
    case round =>
    obtain ⟨k, c, hk, rfl, rfl, HCN⟩ := hrel
    by_cases hlt : k < n
    · obtain ⟨x, hx⟩ : ∃ x, l[k]? = some x := ⟨_, List.getElem?_eq_getElem (by have := HN.out; omega)⟩
      by_cases hcm : c ≤ most
      · obtain ⟨rfl, _, hb⟩ := HA.out (by omega)
        obtain ⟨cs, _, q1, rfl⟩ := HC.out k x hx
        obtain ⟨c0, c1⟩ := at2 q1
        have hs := HG.out x (List.mem_of_getElem? hx)
        have HX := Lib.hid hx
        clear q1 hx
        obtain ⟨hs1, hs2⟩ := hs
        by_cases hc2 : c + x.name.length ≤ most
        · go_wp2
          go_round
          case rel => exact ⟨k + 1, c + x.name.length + x.type.length, by omega, by go_num, by go_num, Lib.hid (cnt_of (cnt_add (cnt_add HCN.out hcm (a := x.name.length) (by omega) hm (by decide)) hc2 (a := x.type.length) (by omega) hm (by decide)) (by rw [sum_next _ HX.out]; unfold cVar; omega))⟩
          case measure => simp [intOf]; omega
        · go_wp2
          go_round
          case rel => exact ⟨k + 1, c + x.name.length, by omega, by go_num, by go_num, Lib.hid (cnt_end (cnt_add HCN.out hcm (a := x.name.length) (by omega) hm (by decide)) hc2 (by rw [sum_next _ HX.out]; unfold cVar; omega))⟩
          case measure => simp [intOf]; omega
      · have HX := Lib.hid hx
        clear hx
        go_wp2
        go_ret
        exact ⟨c, rfl, cnt_end HCN.out hcm (by unfold cVars; have := sum_le cVar l k; omega), rfl⟩
    · go_wp2
      go_ret
      exact ⟨c, rfl, cnt_of HCN.out (by rw [sum_all _ (by have := HN.out; omega)]; rfl), rfl⟩
end Go.Proofs.YtdgmdpphimenjaaDoor.Few6

/-
  The document's Few (layer 6): an instruction.
-/
namespace Go.Proofs.YtdgmdpphimenjaaDoor.Few6
open Go.RowKit Api Mem


theorem boxF {w W : World} {t : TypeId} {cs : List Value} (h : w.alloc (.cells cs.toArray t) = W) : Own W w.heap.size t cs ∧ Below w.heap.size w W ∧ W.heap.size = w.heap.size + 1 := by
  subst h
  exact ⟨Own.made w t cs, (Below.refl _ _).alloc (Nat.le_refl _) _, by simp⟩
theorem holdF {w : World} {g : Nat} {t : TypeId} {cs : List Value} (o : Own w g t cs) (i : Nat) {u : Value} (h : cs[i]? = some u) : w.cell? ⟨g, i, none⟩ = some u := (o.cell i).trans h
def frameS (f : Api.Frame) : Prop := Sh f.func ∧ Sh f.block ∧ ∀ b ∈ f.vars, Sh b.name ∧ Sh b.a.s
def virtS (v : Virt) : Prop := Sh v.cls ∧ ∀ a ∈ v.vals, Sh a.s
def instrS (x : Instr) : Prop := (Sh x.dst ∧ Sh x.name) ∧ (∀ a ∈ x.args, Sh a.s) ∧ (∀ f ∈ x.frames, frameS f) ∧ ∀ o ∈ x.objs, virtS o
abbrev B1 : Nat := 281475061596160 + 1073741824

set_option maxRecDepth 100000 in
set_option maxHeartbeats 16000000 in
theorem cntInstr_any (lo hi : Nat) (w : World) (cs : List Value) (x : Instr) (hx : InstrC lo hi w cs x) (hh : hi ≤ w.heap.size) (most : Nat) (hm : most ≤ 1073741824) (hG : instrS x) :
    Calls Tryd.prog 70 #[.agg cs.toArray, i64 most] w fun e w' => ∃ n : Nat, e = .returned (i64 n) ∧ Cnt B1 most (cInstr x) n ∧ Below w.heap.size w w' := by
  obtain ⟨u1, u2, u3, rfl, ka, kf, ko⟩ := hx
  obtain ⟨op, dst, nm, args, frames, objs⟩ := x
  simp only at ka kf ko hG
  obtain ⟨⟨g1, g2⟩, g3, g4, g5⟩ := hG
  simp only at g1 g2 g3 g4 g5
  obtain ⟨A1, k1, rfl⟩ := ka.form
  obtain ⟨A2, k2, rfl⟩ := kf.form
  obtain ⟨A3, k3, rfl⟩ := ko.form
  obtain ⟨W, hW⟩ : ∃ W, w.alloc (.cells #[i64 op, str dst, str nm, .slice A1 args.length k1, .slice A2 frames.length k2, .slice A3 objs.length k3] 72) = W := ⟨_, rfl⟩
  obtain ⟨o1, b1, z1⟩ := boxF (cs := [i64 op, str dst, str nm, .slice A1 args.length k1, .slice A2 frames.length k2, .slice A3 objs.length k3]) hW
  have kA := Args.move (Still.of_below (b1.mono hh)) ka
  have kF := Frames.move (Still.of_below (b1.mono hh)) kf
  have kO := Virts.move (Still.of_below (b1.mono hh)) ko
  have lF := kF.get
  have lO := kO.get
  have HO := Lib.hid o1
  have HB := Lib.hid b1
  have HW := Lib.hid hW
  have QA := Lib.hid (cntArgs_any lo hi W _ args kA most hm g3)
  have KF := Lib.hid kF
  have KO := Lib.hid kO
  have G4 := Lib.hid g4
  have G5 := Lib.hid g5
  have hlf : frames.length ≤ 4611686018427387903 := by obtain ⟨_, _, _, h, _⟩ := lF; exact h
  have hlo : objs.length ≤ 4611686018427387903 := by obtain ⟨_, _, _, h, _⟩ := lO; exact h
  clear o1 b1 hW ka kf ko kA kF kO g4 g5 g3 lF lO
  by_cases hb1 : most < frames.length
  · have e1 : decide ((most : Int) < (frames.length : Int)) = true := decide_eq_true (by omega)
    go_enter Tryd.func70, Tryd.ntmps70
    go_wp2
    go_ret
    exact ⟨most + 1, by go_num, cnt_more (by unfold cInstr; simp only; omega) hm (by decide), by rw [HW.out]; exact HB.out⟩
  by_cases hb2 : most < objs.length
  · have e1 : decide ((most : Int) < (frames.length : Int)) = false := decide_eq_false (by omega)
    have e2 : decide ((most : Int) < (objs.length : Int)) = true := decide_eq_true (by omega)
    go_enter Tryd.func70, Tryd.ntmps70
    go_wp2
    go_ret
    exact ⟨most + 1, by go_num, cnt_more (by unfold cInstr; simp only; omega) hm (by decide), by rw [HW.out]; exact HB.out⟩
  have e1 : decide ((most : Int) < (frames.length : Int)) = false := decide_eq_false (by omega)
  have e2 : decide ((most : Int) < (objs.length : Int)) = false := decide_eq_false (by omega)
  obtain ⟨S0, hS0⟩ : ∃ S0, 1 + dst.length + frames.length + objs.length + nm.length + cArgs args = S0 := ⟨_, rfl⟩
  have hs1 : Cnt B1 most (1 + dst.length + frames.length + objs.length) (1 + dst.length + frames.length + objs.length) := cnt_start (by unfold B1; omega)
  have HS0 := Lib.hid hS0
  clear hS0
  by_cases hc1 : 1 + dst.length + frames.length + objs.length ≤ most
  · have hs2 := cnt_add hs1 hc1 (a := nm.length) (by omega) hm (by decide)
    by_cases hc2 : 1 + dst.length + frames.length + objs.length + nm.length ≤ most
    · have HS2 := Lib.hid hs2
      clear hs1 hs2
      go_enter Tryd.func70, Tryd.ntmps70
      go_wp2_with fail
      rw [HW.out]
      refine QA.out.mono ?_
      rintro e w5 ⟨d, rfl, hd, hw5⟩
      obtain rfl := hw5.symm
      have hd2 : d ≤ 281474976710656 := by rcases hd with ⟨h1, h2⟩ | ⟨h1, h2, h3⟩ <;> (try unfold B0 at *) <;> omega
      have HST := Lib.hid (cnt_of (T := S0) (cnt_plus HS2.out hc2 hd hm (by decide) (by decide)) (by rw [← HS0.out]))
      have f4 := holdF HO.out 4 rfl
      clear hd
      go_wp2
      clear f4
      go_loop [5, 6, 7] (fun m i _ => ∃ (k c : Nat), k ≤ frames.length ∧ m = .int .i64 c ∧ i = .int .i64 k ∧ Hid (Cnt B1 most (S0 + sumOf cFrame (frames.take k)) c)) (fun _ i _ => frames.length - (intOf i).toNat)
      case atStart => exact ⟨0, _, Nat.zero_le _, rfl, rfl, Lib.hid (by rw [sum_zero]; exact HST.out)⟩
      case round =>
      obtain ⟨k, c, hk, rfl, rfl, HCN⟩ := hrel
      have f4 := holdF HO.out 4 rfl
      by_cases hlt : k < frames.length
      · obtain ⟨⟨fn, bk, ps, fv⟩, hx⟩ : ∃ y, frames[k]? = some y := ⟨_, List.getElem?_eq_getElem hlt⟩
        by_cases hcm : c ≤ most
        · obtain ⟨b3, of3, hn3, hm3, a3, j3⟩ := KF.out.get
          obtain ⟨rfl, _, hb3⟩ := a3 (by omega)
          obtain ⟨cs3, _, q3, u, rfl, hu⟩ := j3 k _ hx
          obtain ⟨B4, k4, rfl⟩ := hu.form
          simp only at hu q3
          obtain ⟨m0, m1, m2, m3⟩ := at4 q3
          obtain ⟨s1, s2, s3⟩ := G4.out _ (List.mem_of_getElem? hx)
          simp only at s1 s2 s3
          have HX := Lib.hid hx
          have HFV := Lib.hid hu
          have HGV := Lib.hid s3
          have hfl : fv.length ≤ 4611686018427387903 := by obtain ⟨_, _, _, h, _⟩ := hu.get; exact h
          clear q3 j3 a3 hx hu s3
          have h7 := cnt_add HCN.out hcm (a := fn.length) (by omega) hm (by decide)
          by_cases hc7 : c + fn.length ≤ most
          · have HST := Lib.hid (cnt_of (T := S0 + sumOf cFrame (frames.take k) + (fn.length + bk.length)) (cnt_add h7 hc7 (a := bk.length) (by omega) hm (by decide)) (by omega))
            clear h7
            go_wp2
            go_loop [5, 7] (fun m i => ∃ (q c : Nat), q ≤ fv.length ∧ m = .int .i64 c ∧ i = .int .i64 q ∧ Hid (Cnt B1 most ((S0 + sumOf cFrame (frames.take k) + (fn.length + bk.length)) + sumOf cBind (fv.take q)) c)) (fun _ i => fv.length - (intOf i).toNat)
            case atStart => exact ⟨0, _, Nat.zero_le _, rfl, rfl, Lib.hid (by rw [sum_zero]; exact HST.out)⟩
            case round =>
            obtain ⟨q, c, hq, rfl, rfl, HCN⟩ := hrel
            by_cases hqt : q < fv.length
            · obtain ⟨⟨bn, ⟨bq, bs, bi⟩⟩, hy⟩ : ∃ y, fv[q]? = some y := ⟨_, List.getElem?_eq_getElem hqt⟩
              by_cases hcm : c ≤ most
              · obtain ⟨b4, of4, hn4, hm4, a4, j4⟩ := HFV.out.get
                obtain ⟨rfl, _, hb4⟩ := a4 (by omega)
                obtain ⟨cs4, _, q4, rfl⟩ := j4 q _ hy
                obtain ⟨r0, r1, r2, r3⟩ := at4 q4
                obtain ⟨s1, s2⟩ := HGV.out _ (List.mem_of_getElem? hy)
                simp only at s1 s2 r0 r1 r2 r3
                have HY := Lib.hid hy
                clear q4 j4 a4 hy
                have h9 := cnt_add HCN.out hcm (a := 1 + bn.length) (by omega) hm (by decide)
                by_cases hc9 : c + 1 + bn.length ≤ most
                · have H9 := Lib.hid (cnt_add (cnt_of (T := (S0 + sumOf cFrame (frames.take k) + (fn.length + bk.length)) + sumOf cBind (fv.take q) + (1 + bn.length)) h9 rfl) (by omega) (a := bs.length) (by omega) hm (by decide))
                  clear h9
                  go_wp2
                  go_round
                  case rel => exact ⟨q + 1, c + (1 + bn.length) + bs.length, by omega, by go_num, by go_num, Lib.hid (cnt_of H9.out (by rw [sum_next _ HY.out]; unfold cBind; simp only; omega))⟩
                  case measure => simp [intOf]; omega
                · have H9 := Lib.hid h9
                  clear h9
                  go_wp2
                  go_round
                  case rel => exact ⟨q + 1, c + (1 + bn.length), by omega, by go_num, by go_num, Lib.hid (cnt_end H9.out (by omega) (by rw [sum_next _ HY.out]; unfold cBind; simp only; omega))⟩
                  case measure => simp [intOf]; omega
              · clear hy
                have H9 := Lib.hid (cnt_end (S' := (S0 + sumOf cFrame (frames.take k) + (fn.length + bk.length)) + sumOf cBind fv) HCN.out hcm (by have := sum_le cBind fv q; omega))
                go_wp2
                go_round
                case rel => exact ⟨k + 1, c, by omega, rfl, by go_num, Lib.hid (cnt_of H9.out (by rw [sum_next _ HX.out]; unfold cFrame; simp only; omega))⟩
                case measure => simp [intOf]; omega
            · have H9 := Lib.hid (cnt_of (T := (S0 + sumOf cFrame (frames.take k) + (fn.length + bk.length)) + sumOf cBind fv) HCN.out (by rw [sum_all cBind (by omega)]))
              go_wp2
              go_round
              case rel => exact ⟨k + 1, c, by omega, rfl, by go_num, Lib.hid (cnt_of H9.out (by rw [sum_next _ HX.out]; unfold cFrame; simp only; omega))⟩
              case measure => simp [intOf]; omega
          · have HST := Lib.hid (cnt_end (S' := S0 + sumOf cFrame (frames.take k) + (fn.length + bk.length)) h7 hc7 (by omega))
            clear h7
            go_wp2
            go_loop [5, 7] (fun m i => ∃ (q c : Nat), q ≤ fv.length ∧ m = .int .i64 c ∧ i = .int .i64 q ∧ Hid (Cnt B1 most ((S0 + sumOf cFrame (frames.take k) + (fn.length + bk.length)) + sumOf cBind (fv.take q)) c)) (fun _ i => fv.length - (intOf i).toNat)
            case atStart => exact ⟨0, _, Nat.zero_le _, rfl, rfl, Lib.hid (by rw [sum_zero]; exact HST.out)⟩
            case round =>
            obtain ⟨q, c, hq, rfl, rfl, HCN⟩ := hrel
            by_cases hqt : q < fv.length
            · obtain ⟨⟨bn, ⟨bq, bs, bi⟩⟩, hy⟩ : ∃ y, fv[q]? = some y := ⟨_, List.getElem?_eq_getElem hqt⟩
              by_cases hcm : c ≤ most
              · obtain ⟨b4, of4, hn4, hm4, a4, j4⟩ := HFV.out.get
                obtain ⟨rfl, _, hb4⟩ := a4 (by omega)
                obtain ⟨cs4, _, q4, rfl⟩ := j4 q _ hy
                obtain ⟨r0, r1, r2, r3⟩ := at4 q4
                obtain ⟨s1, s2⟩ := HGV.out _ (List.mem_of_getElem? hy)
                simp only at s1 s2 r0 r1 r2 r3
                have HY := Lib.hid hy
                clear q4 j4 a4 hy
                have h9 := cnt_add HCN.out hcm (a := 1 + bn.length) (by omega) hm (by decide)
                by_cases hc9 : c + 1 + bn.length ≤ most
                · have H9 := Lib.hid (cnt_add (cnt_of (T := (S0 + sumOf cFrame (frames.take k) + (fn.length + bk.length)) + sumOf cBind (fv.take q) + (1 + bn.length)) h9 rfl) (by omega) (a := bs.length) (by omega) hm (by decide))
                  clear h9
                  go_wp2
                  go_round
                  case rel => exact ⟨q + 1, c + (1 + bn.length) + bs.length, by omega, by go_num, by go_num, Lib.hid (cnt_of H9.out (by rw [sum_next _ HY.out]; unfold cBind; simp only; omega))⟩
                  case measure => simp [intOf]; omega
                · have H9 := Lib.hid h9
                  clear h9
                  go_wp2
                  go_round
                  case rel => exact ⟨q + 1, c + (1 + bn.length), by omega, by go_num, by go_num, Lib.hid (cnt_end H9.out (by omega) (by rw [sum_next _ HY.out]; unfold cBind; simp only; omega))⟩
                  case measure => simp [intOf]; omega
              · clear hy
                have H9 := Lib.hid (cnt_end (S' := (S0 + sumOf cFrame (frames.take k) + (fn.length + bk.length)) + sumOf cBind fv) HCN.out hcm (by have := sum_le cBind fv q; omega))
                go_wp2
                go_round
                case rel => exact ⟨k + 1, c, by omega, rfl, by go_num, Lib.hid (cnt_of H9.out (by rw [sum_next _ HX.out]; unfold cFrame; simp only; omega))⟩
                case measure => simp [intOf]; omega
            · have H9 := Lib.hid (cnt_of (T := (S0 + sumOf cFrame (frames.take k) + (fn.length + bk.length)) + sumOf cBind fv) HCN.out (by rw [sum_all cBind (by omega)]))
              go_wp2
              go_round
              case rel => exact ⟨k + 1, c, by omega, rfl, by go_num, Lib.hid (cnt_of H9.out (by rw [sum_next _ HX.out]; unfold cFrame; simp only; omega))⟩
              case measure => simp [intOf]; omega
        · clear hx
          have HST := Lib.hid (cnt_end (S' := S0 + sumOf cFrame frames) HCN.out hcm (by have := sum_le cFrame frames k; omega))
          have f5 := holdF HO.out 5 rfl
          go_wp2
          clear f4 f5
          go_loop [5, 8] (fun m i => ∃ (k c : Nat), k ≤ objs.length ∧ m = .int .i64 c ∧ i = .int .i64 k ∧ Hid (Cnt B1 most (S0 + sumOf cFrame frames + sumOf cVirt (objs.take k)) c)) (fun _ i => objs.length - (intOf i).toNat)
          case atStart => exact ⟨0, _, Nat.zero_le _, rfl, rfl, Lib.hid (by rw [sum_zero]; exact HST.out)⟩
          case round =>
          obtain ⟨k, c, hk, rfl, rfl, HCN⟩ := hrel
          have f5 := holdF HO.out 5 rfl
          by_cases hlt : k < objs.length
          · obtain ⟨⟨vn, vs⟩, hx⟩ : ∃ y, objs[k]? = some y := ⟨_, List.getElem?_eq_getElem hlt⟩
            by_cases hcm : c ≤ most
            · obtain ⟨b3, of3, hn3, hm3, a3, j3⟩ := KO.out.get
              obtain ⟨rfl, _, hb3⟩ := a3 (by omega)
              obtain ⟨cs3, _, q3, u, rfl, hu⟩ := j3 k _ hx
              obtain ⟨B4, k4, rfl⟩ := hu.form
              simp only at hu q3
              obtain ⟨m0, m1⟩ := at2 q3
              obtain ⟨s1, s2⟩ := G5.out _ (List.mem_of_getElem? hx)
              simp only at s1 s2
              have HX := Lib.hid hx
              have QV := Lib.hid (cntArgs_any lo hi W _ vs hu most hm s2)
              clear q3 j3 a3 hx hu s2
              have h7 := cnt_add HCN.out hcm (a := vn.length) (by omega) hm (by decide)
              by_cases hc7 : c + vn.length ≤ most
              · have H7 := Lib.hid h7
                clear h7
                go_wp2_with ((with_reducible refine QV.out.mono ?_); rintro e w5 ⟨d, rfl, hd, hw5⟩; obtain rfl := hw5.symm; have HD := Lib.hid hd; have hd2 : d ≤ 281474976710656 := (by rcases hd with ⟨h1, h2⟩ | ⟨h1, h2, h3⟩ <;> (try unfold B0 at *) <;> omega); clear hd)
                go_round
                case rel => exact ⟨k + 1, c + vn.length + d, by omega, by go_num, by go_num, Lib.hid (cnt_of (cnt_plus H7.out hc7 HD.out hm (by decide) (by decide)) (by rw [sum_next _ HX.out]; unfold cVirt; simp only; omega))⟩
                case measure => simp [intOf]; omega
              · have H7 := Lib.hid h7
                clear h7
                go_wp2
                go_round
                case rel => exact ⟨k + 1, c + vn.length, by omega, by go_num, by go_num, Lib.hid (cnt_end H7.out hc7 (by rw [sum_next _ HX.out]; unfold cVirt; simp only; omega))⟩
                case measure => simp [intOf]; omega
            · clear hx
              have H9 := Lib.hid (cnt_end (S' := S0 + sumOf cFrame frames + sumOf cVirt objs) HCN.out hcm (by have := sum_le cVirt objs k; omega))
              go_wp2
              go_ret
              exact ⟨c, rfl, cnt_of H9.out (by rw [← HS0.out]; unfold cInstr; simp only; try omega), HB.out⟩
          · have H9 := Lib.hid (cnt_of (T := S0 + sumOf cFrame frames + sumOf cVirt objs) HCN.out (by rw [sum_all cVirt (by omega)]))
            go_wp2
            go_ret
            exact ⟨c, rfl, cnt_of H9.out (by rw [← HS0.out]; unfold cInstr; simp only; try omega), HB.out⟩
      · have HST := Lib.hid (cnt_of (T := S0 + sumOf cFrame frames) HCN.out (by rw [sum_all cFrame (by omega)]))
        have f5 := holdF HO.out 5 rfl
        go_wp2
        clear f4 f5
        go_loop [5, 8] (fun m i => ∃ (k c : Nat), k ≤ objs.length ∧ m = .int .i64 c ∧ i = .int .i64 k ∧ Hid (Cnt B1 most (S0 + sumOf cFrame frames + sumOf cVirt (objs.take k)) c)) (fun _ i => objs.length - (intOf i).toNat)
        case atStart => exact ⟨0, _, Nat.zero_le _, rfl, rfl, Lib.hid (by rw [sum_zero]; exact HST.out)⟩
        case round =>
        obtain ⟨k, c, hk, rfl, rfl, HCN⟩ := hrel
        have f5 := holdF HO.out 5 rfl
        by_cases hlt : k < objs.length
        · obtain ⟨⟨vn, vs⟩, hx⟩ : ∃ y, objs[k]? = some y := ⟨_, List.getElem?_eq_getElem hlt⟩
          by_cases hcm : c ≤ most
          · obtain ⟨b3, of3, hn3, hm3, a3, j3⟩ := KO.out.get
            obtain ⟨rfl, _, hb3⟩ := a3 (by omega)
            obtain ⟨cs3, _, q3, u, rfl, hu⟩ := j3 k _ hx
            obtain ⟨B4, k4, rfl⟩ := hu.form
            simp only at hu q3
            obtain ⟨m0, m1⟩ := at2 q3
            obtain ⟨s1, s2⟩ := G5.out _ (List.mem_of_getElem? hx)
            simp only at s1 s2
            have HX := Lib.hid hx
            have QV := Lib.hid (cntArgs_any lo hi W _ vs hu most hm s2)
            clear q3 j3 a3 hx hu s2
            have h7 := cnt_add HCN.out hcm (a := vn.length) (by omega) hm (by decide)
            by_cases hc7 : c + vn.length ≤ most
            · have H7 := Lib.hid h7
              clear h7
              go_wp2_with ((with_reducible refine QV.out.mono ?_); rintro e w5 ⟨d, rfl, hd, hw5⟩; obtain rfl := hw5.symm; have HD := Lib.hid hd; have hd2 : d ≤ 281474976710656 := (by rcases hd with ⟨h1, h2⟩ | ⟨h1, h2, h3⟩ <;> (try unfold B0 at *) <;> omega); clear hd)
              go_round
              case rel => exact ⟨k + 1, c + vn.length + d, by omega, by go_num, by go_num, Lib.hid (cnt_of (cnt_plus H7.out hc7 HD.out hm (by decide) (by decide)) (by rw [sum_next _ HX.out]; unfold cVirt; simp only; omega))⟩
              case measure => simp [intOf]; omega
            · have H7 := Lib.hid h7
              clear h7
              go_wp2
              go_round
              case rel => exact ⟨k + 1, c + vn.length, by omega, by go_num, by go_num, Lib.hid (cnt_end H7.out hc7 (by rw [sum_next _ HX.out]; unfold cVirt; simp only; omega))⟩
              case measure => simp [intOf]; omega
          · clear hx
            have H9 := Lib.hid (cnt_end (S' := S0 + sumOf cFrame frames + sumOf cVirt objs) HCN.out hcm (by have := sum_le cVirt objs k; omega))
            go_wp2
            go_ret
            exact ⟨c, rfl, cnt_of H9.out (by rw [← HS0.out]; unfold cInstr; simp only; try omega), HB.out⟩
        · have H9 := Lib.hid (cnt_of (T := S0 + sumOf cFrame frames + sumOf cVirt objs) HCN.out (by rw [sum_all cVirt (by omega)]))
          go_wp2
          go_ret
          exact ⟨c, rfl, cnt_of H9.out (by rw [← HS0.out]; unfold cInstr; simp only; try omega), HB.out⟩
    · obtain ⟨c0, hC0⟩ : ∃ c0 : Nat, 1 + dst.length + frames.length + objs.length + nm.length = c0 := ⟨_, rfl⟩
      rw [hC0] at hs2 hc2
      have HST := Lib.hid hs2
      have hc0 := hc2
      have HC0 := Lib.hid (show ((1 : Int) + (dst.length : Int) + (frames.length : Int) + (objs.length : Int) + (nm.length : Int)) = (c0 : Int) by omega)
      have hz : ¬ ((1 : Int) + (dst.length : Int) + (frames.length : Int) + (objs.length : Int) + (nm.length : Int)) ≤ (most : Int) := by omega
      clear hs1 hs2 hc2 hC0
      go_enter Tryd.func70, Tryd.ntmps70
      go_wp2_with fail
      rw [HW.out]
      go_loop [5, 6, 7] (fun m i _ => m = .int .i64 c0 ∧ i = .int .i64 0) (fun _ _ _ => 0)
      case atStart => exact ⟨by rw [HC0.out], rfl⟩
      case round =>
      obtain ⟨rfl, rfl⟩ := hrel
      have f4 := holdF HO.out 4 rfl
      have f5 := holdF HO.out 5 rfl
      by_cases h0 : 0 < frames.length
      all_goals
        go_wp2
        go_loop [5, 8] (fun m i => m = .int .i64 c0 ∧ i = .int .i64 0) (fun _ _ => 0)
        case atStart => exact ⟨rfl, rfl⟩
        case round =>
        obtain ⟨rfl, rfl⟩ := hrel
        by_cases h1 : 0 < objs.length
        all_goals
          go_wp2
          go_ret
          exact ⟨c0, rfl, cnt_end HST.out hc0 (by have := HC0.out; unfold cInstr; simp only; omega), HB.out⟩
  · obtain ⟨c0, hC0⟩ : ∃ c0 : Nat, 1 + dst.length + frames.length + objs.length = c0 := ⟨_, rfl⟩
    rw [hC0] at hs1 hc1
    have HST := Lib.hid hs1
    have hc0 := hc1
    have HC0 := Lib.hid (show ((1 : Int) + (dst.length : Int) + (frames.length : Int) + (objs.length : Int)) = (c0 : Int) by omega)
    have hz : ¬ ((1 : Int) + (dst.length : Int) + (frames.length : Int) + (objs.length : Int)) ≤ (most : Int) := by omega
    clear hs1 hc1 hC0
    go_enter Tryd.func70, Tryd.ntmps70
    go_wp2_with fail
    rw [HW.out]
    go_loop [5, 6, 7] (fun m i _ => m = .int .i64 c0 ∧ i = .int .i64 0) (fun _ _ _ => 0)
    case atStart => exact ⟨by rw [HC0.out], rfl⟩
    case round =>
    obtain ⟨rfl, rfl⟩ := hrel
    have f4 := holdF HO.out 4 rfl
    have f5 := holdF HO.out 5 rfl
    by_cases h0 : 0 < frames.length
    all_goals
      go_wp2
      go_loop [5, 8] (fun m i => m = .int .i64 c0 ∧ i = .int .i64 0) (fun _ _ => 0)
      case atStart => exact ⟨rfl, rfl⟩
      case round =>
      obtain ⟨rfl, rfl⟩ := hrel
      by_cases h1 : 0 < objs.length
      all_goals
        go_wp2
        go_ret
        exact ⟨c0, rfl, cnt_end HST.out hc0 (by have := HC0.out; unfold cInstr; simp only; omega), HB.out⟩
end Go.Proofs.YtdgmdpphimenjaaDoor.Few6

/-
  The document's Few (layer 6): a block.
-/
namespace Go.Proofs.YtdgmdpphimenjaaDoor.Few6
open Go.RowKit Api Mem

def phiS (p : Phi) : Prop := Sh p.dst ∧ ∀ b ∈ p.ins, Sh b.name ∧ Sh b.a.s
def blockS (b : Api.Block) : Prop := (Sh b.name ∧ Sh b.fin.a.s) ∧ (∀ x ∈ b.fin.dest, Sh x) ∧ (∀ p ∈ b.phis, phiS p) ∧ ∀ i ∈ b.code, instrS i
abbrev B2 : Nat := 281477209079808
set_option maxRecDepth 100000 in
set_option maxHeartbeats 16000000 in
theorem cntBlock_any (lo hi : Nat) (w : World) (cs : List Value) (x : Api.Block) (hx : BlockC lo hi w cs x) (hh : hi ≤ w.heap.size) (most : Nat) (hm : most ≤ 1073741824) (hG : blockS x) :
    Calls Tryd.prog 39 #[.agg cs.toArray, i64 most] w fun e w' => ∃ n : Nat, e = .returned (i64 n) ∧ Cnt B2 most (cBlock x) n ∧ Below w.heap.size w w' := by
  obtain ⟨u1, u2, cs2, rfl, kp, kc, u3, rfl, kd⟩ := hx
  obtain ⟨nm, phis, code, ⟨tk, ⟨ak, as_, an⟩, dest, tn⟩⟩ := x
  simp only at kp kc kd hG
  obtain ⟨⟨g1, g2⟩, g3, g4, g5⟩ := hG
  simp only at g1 g2 g3 g4 g5
  obtain ⟨A1, k1, rfl⟩ := kp.form
  obtain ⟨A2, k2, rfl⟩ := kc.form
  obtain ⟨A3, k3, rfl⟩ := kd.form
  obtain ⟨W, hW⟩ : ∃ W, w.alloc (.cells #[str nm, .slice A1 phis.length k1, .slice A2 code.length k2, i64 tk, i64 ak, str as_, i64 an, .slice A3 dest.length k3, i64 tn] 60) = W := ⟨_, rfl⟩
  obtain ⟨o1, b1, z1⟩ := boxF (cs := [str nm, .slice A1 phis.length k1, .slice A2 code.length k2, i64 tk, i64 ak, str as_, i64 an, .slice A3 dest.length k3, i64 tn]) hW
  have kP := Phis.move (Still.of_below (b1.mono hh)) kp
  have kC := Instrs.move (Still.of_below (b1.mono hh)) kc
  have kD := Texts.move (Still.of_below (b1.mono hh)) kd
  have lP := kP.get
  have lC := kC.get
  have lD := kD.get
  have HO := Lib.hid o1
  have HB := Lib.hid b1
  have HW := Lib.hid hW
  have KP := Lib.hid kP
  have KC := Lib.hid kC
  have KD := Lib.hid kD
  have GD := Lib.hid g3
  have GP := Lib.hid g4
  have GC := Lib.hid g5
  have HHW : Hid (hi ≤ W.heap.size) := Lib.hid (by omega)
  have hlp : phis.length ≤ 4611686018427387903 := by obtain ⟨_, _, _, h, _⟩ := lP; exact h
  have hlc : code.length ≤ 4611686018427387903 := by obtain ⟨_, _, _, h, _⟩ := lC; exact h
  have hld : dest.length ≤ 4611686018427387903 := by obtain ⟨_, _, _, h, _⟩ := lD; exact h
  clear o1 b1 hW kp kc kd kP kC kD g3 g4 g5 lP lC lD
  by_cases hb1 : most < phis.length
  · have e1 : decide ((most : Int) < (phis.length : Int)) = true := decide_eq_true (by omega)
    go_enter Tryd.func39, Tryd.ntmps39
    go_wp2_with fail
    rw [HW.out]
    go_ret
    exact ⟨most + 1, by go_num, cnt_more (by unfold cBlock; simp only; have := sum_len cPhi phis (fun x => by unfold cPhi; omega); omega) hm (by decide), HB.out⟩
  have e1 : decide ((most : Int) < (phis.length : Int)) = false := decide_eq_false (by omega)
  by_cases hb2 : most < code.length
  · have e2 : decide ((most : Int) < (code.length : Int)) = true := decide_eq_true (by omega)
    go_enter Tryd.func39, Tryd.ntmps39
    go_wp2_with fail
    rw [HW.out]
    go_ret
    exact ⟨most + 1, by go_num, cnt_more (by unfold cBlock; simp only; have := sum_len cInstr code (fun x => by unfold cInstr; omega); omega) hm (by decide), HB.out⟩
  have e2 : decide ((most : Int) < (code.length : Int)) = false := decide_eq_false (by omega)
  by_cases hb3 : most < dest.length
  · have e3 : decide ((most : Int) < (dest.length : Int)) = true := decide_eq_true (by omega)
    go_enter Tryd.func39, Tryd.ntmps39
    go_wp2_with fail
    rw [HW.out]
    go_ret
    exact ⟨most + 1, by go_num, cnt_more (by unfold cBlock; simp only; have := sum_len cText dest (fun x => by unfold cText; omega); omega) hm (by decide), HB.out⟩
  have e3 : decide ((most : Int) < (dest.length : Int)) = false := decide_eq_false (by omega)
  obtain ⟨S0, hS0⟩ : ∃ S0, 1 + nm.length + as_.length = S0 := ⟨_, rfl⟩
  have hs1 : Cnt B2 most (1 + nm.length) (1 + nm.length) := cnt_start (by unfold B2; omega)
  have HS0 := Lib.hid hS0
  clear hS0
  by_cases hc1 : 1 + nm.length ≤ most
  · have HST := Lib.hid (cnt_of (T := S0) (cnt_add hs1 hc1 (a := as_.length) (by omega) hm (by decide)) HS0.out)
    clear hs1
    go_enter Tryd.func39, Tryd.ntmps39
    go_wp2_with fail
    rw [HW.out]
    go_loop [5, 6] (fun m i => ∃ (k c : Nat), k ≤ dest.length ∧ m = .int .i64 c ∧ i = .int .i64 k ∧ Hid (Cnt B2 most (S0 + sumOf cText (dest.take k)) c)) (fun _ i => dest.length - (intOf i).toNat)
    case atStart => exact ⟨0, _, Nat.zero_le _, rfl, rfl, Lib.hid (by rw [sum_zero]; exact HST.out)⟩
    case round =>
    obtain ⟨k, c, hk, rfl, rfl, HCN⟩ := hrel
    have f7 := holdF HO.out 7 rfl
    by_cases hlt : k < dest.length
    · obtain ⟨x, hx⟩ : ∃ y, dest[k]? = some y := ⟨_, List.getElem?_eq_getElem hlt⟩
      by_cases hcm : c ≤ most
      · obtain ⟨b3, of3, hn3, hm3, a3, j3⟩ := KD.out.get
        obtain ⟨rfl, _, hb3⟩ := a3 (by omega)
        obtain ⟨cs3, _, q3, rfl⟩ := j3 k _ hx
        have m0 := q3 0 _ rfl
        rw [Nat.mul_one, Nat.add_zero] at m0
        have s1 := GD.out _ (List.mem_of_getElem? hx)
        have HX := Lib.hid hx
        clear q3 j3 a3 hx
        have H7 := Lib.hid (cnt_add HCN.out hcm (a := 1 + x.length) (by omega) hm (by decide))
        go_wp2
        go_round
        case rel => exact ⟨k + 1, c + (1 + x.length), by omega, by go_num, by go_num, Lib.hid (cnt_of H7.out (by rw [sum_next _ HX.out]; unfold cText; omega))⟩
        case measure => simp [intOf]; omega
      · clear hx
        have HST2 := Lib.hid (cnt_end (S' := S0 + sumOf cText dest) HCN.out hcm (by have := sum_le cText dest k; omega))
        have f1 := holdF HO.out 1 rfl
        go_wp2
        clear f1 f7
        go_loop [5, 7, 8] (fun m i _ => ∃ (k c : Nat), k ≤ phis.length ∧ m = .int .i64 c ∧ i = .int .i64 k ∧ Hid (Cnt B2 most (S0 + sumOf cText dest + sumOf cPhi (phis.take k)) c)) (fun _ i _ => phis.length - (intOf i).toNat)
        case atStart => exact ⟨0, _, Nat.zero_le _, rfl, rfl, Lib.hid (by rw [sum_zero]; exact HST2.out)⟩
        case round =>
        obtain ⟨k, c, hk, rfl, rfl, HCN⟩ := hrel
        have f1 := holdF HO.out 1 rfl
        by_cases hlt : k < phis.length
        · obtain ⟨⟨pd, fv⟩, hx⟩ : ∃ y, phis[k]? = some y := ⟨_, List.getElem?_eq_getElem hlt⟩
          by_cases hcm : c ≤ most
          · obtain ⟨b3, of3, hn3, hm3, a3, j3⟩ := KP.out.get
            obtain ⟨rfl, _, hb3⟩ := a3 (by omega)
            obtain ⟨cs3, _, q3, u, rfl, hu⟩ := j3 k _ hx
            obtain ⟨B4, k4, rfl⟩ := hu.form
            simp only at hu q3
            obtain ⟨m0, m1⟩ := at2 q3
            obtain ⟨s1, s3⟩ := GP.out _ (List.mem_of_getElem? hx)
            simp only at s1 s3
            have HX := Lib.hid hx
            have HFV := Lib.hid hu
            have HGV := Lib.hid s3
            have hfl : fv.length ≤ 4611686018427387903 := by obtain ⟨_, _, _, h, _⟩ := hu.get; exact h
            clear q3 j3 a3 hx hu s3
            have HST := Lib.hid (cnt_val (m := c + 1 + pd.length) (cnt_add HCN.out hcm (a := 1 + pd.length) (by omega) hm (by decide)) (by omega))
            go_wp2
            go_loop [5, 8] (fun m i => ∃ (q c : Nat), q ≤ fv.length ∧ m = .int .i64 c ∧ i = .int .i64 q ∧ Hid (Cnt B2 most ((S0 + sumOf cText dest + sumOf cPhi (phis.take k) + (1 + pd.length)) + sumOf cBind (fv.take q)) c)) (fun _ i => fv.length - (intOf i).toNat)
            case atStart => exact ⟨0, _, Nat.zero_le _, rfl, rfl, Lib.hid (by rw [sum_zero]; exact HST.out)⟩
            case round =>
            obtain ⟨q, c, hq, rfl, rfl, HCN⟩ := hrel
            by_cases hqt : q < fv.length
            · obtain ⟨⟨bn, ⟨bq, bs, bi⟩⟩, hy⟩ : ∃ y, fv[q]? = some y := ⟨_, List.getElem?_eq_getElem hqt⟩
              by_cases hcm : c ≤ most
              · obtain ⟨b4, of4, hn4, hm4, a4, j4⟩ := HFV.out.get
                obtain ⟨rfl, _, hb4⟩ := a4 (by omega)
                obtain ⟨cs4, _, q4, rfl⟩ := j4 q _ hy
                obtain ⟨r0, r1, r2, r3⟩ := at4 q4
                obtain ⟨s1, s2⟩ := HGV.out _ (List.mem_of_getElem? hy)
                simp only at s1 s2 r0 r1 r2 r3
                have HY := Lib.hid hy
                clear q4 j4 a4 hy
                have h9 := cnt_add HCN.out hcm (a := 1 + bn.length) (by omega) hm (by decide)
                by_cases hc9 : c + 1 + bn.length ≤ most
                · have H9 := Lib.hid (cnt_add (cnt_of (T := (S0 + sumOf cText dest + sumOf cPhi (phis.take k) + (1 + pd.length)) + sumOf cBind (fv.take q) + (1 + bn.length)) h9 rfl) (by omega) (a := bs.length) (by omega) hm (by decide))
                  clear h9
                  go_wp2
                  go_round
                  case rel => exact ⟨q + 1, c + (1 + bn.length) + bs.length, by omega, by go_num, by go_num, Lib.hid (cnt_of H9.out (by rw [sum_next _ HY.out]; unfold cBind; simp only; omega))⟩
                  case measure => simp [intOf]; omega
                · have H9 := Lib.hid h9
                  clear h9
                  go_wp2
                  go_round
                  case rel => exact ⟨q + 1, c + (1 + bn.length), by omega, by go_num, by go_num, Lib.hid (cnt_end H9.out (by omega) (by rw [sum_next _ HY.out]; unfold cBind; simp only; omega))⟩
                  case measure => simp [intOf]; omega
              · clear hy
                have H9 := Lib.hid (cnt_end (S' := (S0 + sumOf cText dest + sumOf cPhi (phis.take k) + (1 + pd.length)) + sumOf cBind fv) HCN.out hcm (by have := sum_le cBind fv q; omega))
                go_wp2
                go_round
                case rel => exact ⟨k + 1, c, by omega, rfl, by go_num, Lib.hid (cnt_of H9.out (by rw [sum_next _ HX.out]; unfold cPhi; simp only; omega))⟩
                case measure => simp [intOf]; omega
            · have H9 := Lib.hid (cnt_of (T := (S0 + sumOf cText dest + sumOf cPhi (phis.take k) + (1 + pd.length)) + sumOf cBind fv) HCN.out (by rw [sum_all cBind (by omega)]))
              go_wp2
              go_round
              case rel => exact ⟨k + 1, c, by omega, rfl, by go_num, Lib.hid (cnt_of H9.out (by rw [sum_next _ HX.out]; unfold cPhi; simp only; omega))⟩
              case measure => simp [intOf]; omega
          · clear hx
            have HST3 := Lib.hid (cnt_end (S' := S0 + sumOf cText dest + sumOf cPhi phis) HCN.out hcm (by have := sum_le cPhi phis k; omega))
            have f2 := holdF HO.out 2 rfl
            go_wp2
            clear f1 f2
            go_loopw [5, 9] (fun m i wr => ∃ (k c : Nat), k ≤ code.length ∧ m = .int .i64 c ∧ i = .int .i64 k ∧ Hid (Cnt B2 most (S0 + sumOf cText dest + sumOf cPhi phis + sumOf cInstr (code.take k)) c) ∧ Hid (Below W.heap.size W wr)) (fun _ i _ => code.length - (intOf i).toNat)
            case atStart => exact ⟨0, _, Nat.zero_le _, rfl, rfl, Lib.hid (by rw [sum_zero]; exact HST3.out), Lib.hid (Below.refl _ _)⟩
            case round =>
            obtain ⟨k, c, hk, rfl, rfl, HCN, HBr⟩ := hrel
            have f2 := (HO.out.below HBr.out HO.out.lt).cell 2
            simp only [List.getElem?_cons_succ, List.getElem?_cons_zero] at f2
            by_cases hlt : k < code.length
            · obtain ⟨x, hx⟩ : ∃ y, code[k]? = some y := ⟨_, List.getElem?_eq_getElem hlt⟩
              by_cases hcm : c ≤ most
              · obtain ⟨b3, of3, hn3, hm3, a3, j3⟩ := KC.out.get
                obtain ⟨rfl, _, hb3⟩ := a3 (by omega)
                obtain ⟨cs3, _, q3, hu⟩ := j3 k _ hx
                have hu2 := InstrC.move (Still.of_below (HBr.out.mono HHW.out)) hu
                have QI := Lib.hid (cntInstr_any lo hi wr cs3 x hu2 (Nat.le_trans HHW.out HBr.out.size) most hm (GC.out _ (List.mem_of_getElem? hx)))
                obtain ⟨x1, x2, x3, e1', _⟩ := hu
                subst e1'
                obtain ⟨m0, m1, m2, m3, m4, m5⟩ := at6 (cells_later q3 HBr.out (by have := HHW.out; omega))
                have HX := Lib.hid hx
                clear q3 j3 a3 hx hu2
                go_wp2_with ((with_reducible refine QI.out.mono ?_); rintro e w5 ⟨d, rfl, hd, hb5⟩; have HB5 := Lib.hid (HBr.out.trans (hb5.mono HBr.out.size)); have HD := Lib.hid hd; have hd2 : d ≤ 281476135337984 := (by rcases hd with ⟨h1, h2⟩ | ⟨h1, h2, h3⟩ <;> (try unfold B1 at *) <;> omega); clear hd hb5)
                go_roundw
                case rel => exact ⟨k + 1, c + d, by omega, by go_num, by go_num, Lib.hid (cnt_of (cnt_plus HCN.out hcm HD.out hm (by decide) (by decide)) (by rw [sum_next _ HX.out]; omega)), HB5⟩
                case measure => simp [intOf]; omega
              · clear hx
                have H9 := Lib.hid (cnt_end (S' := S0 + sumOf cText dest + sumOf cPhi phis + sumOf cInstr code) HCN.out hcm (by have := sum_le cInstr code k; omega))
                go_wp2
                go_ret
                exact ⟨c, rfl, cnt_of H9.out (by rw [← HS0.out]; unfold cBlock; simp only; try omega), HB.out.trans (HBr.out.mono HB.out.size)⟩
            · have H9 := Lib.hid (cnt_of (T := S0 + sumOf cText dest + sumOf cPhi phis + sumOf cInstr code) HCN.out (by rw [sum_all cInstr (by omega)]))
              go_wp2
              go_ret
              exact ⟨c, rfl, cnt_of H9.out (by rw [← HS0.out]; unfold cBlock; simp only; try omega), HB.out.trans (HBr.out.mono HB.out.size)⟩
        · have HST3 := Lib.hid (cnt_of (T := S0 + sumOf cText dest + sumOf cPhi phis) HCN.out (by rw [sum_all cPhi (by omega)]))
          have f2 := holdF HO.out 2 rfl
          go_wp2
          clear f1 f2
          go_loopw [5, 9] (fun m i wr => ∃ (k c : Nat), k ≤ code.length ∧ m = .int .i64 c ∧ i = .int .i64 k ∧ Hid (Cnt B2 most (S0 + sumOf cText dest + sumOf cPhi phis + sumOf cInstr (code.take k)) c) ∧ Hid (Below W.heap.size W wr)) (fun _ i _ => code.length - (intOf i).toNat)
          case atStart => exact ⟨0, _, Nat.zero_le _, rfl, rfl, Lib.hid (by rw [sum_zero]; exact HST3.out), Lib.hid (Below.refl _ _)⟩
          case round =>
          obtain ⟨k, c, hk, rfl, rfl, HCN, HBr⟩ := hrel
          have f2 := (HO.out.below HBr.out HO.out.lt).cell 2
          simp only [List.getElem?_cons_succ, List.getElem?_cons_zero] at f2
          by_cases hlt : k < code.length
          · obtain ⟨x, hx⟩ : ∃ y, code[k]? = some y := ⟨_, List.getElem?_eq_getElem hlt⟩
            by_cases hcm : c ≤ most
            · obtain ⟨b3, of3, hn3, hm3, a3, j3⟩ := KC.out.get
              obtain ⟨rfl, _, hb3⟩ := a3 (by omega)
              obtain ⟨cs3, _, q3, hu⟩ := j3 k _ hx
              have hu2 := InstrC.move (Still.of_below (HBr.out.mono HHW.out)) hu
              have QI := Lib.hid (cntInstr_any lo hi wr cs3 x hu2 (Nat.le_trans HHW.out HBr.out.size) most hm (GC.out _ (List.mem_of_getElem? hx)))
              obtain ⟨x1, x2, x3, e1', _⟩ := hu
              subst e1'
              obtain ⟨m0, m1, m2, m3, m4, m5⟩ := at6 (cells_later q3 HBr.out (by have := HHW.out; omega))
              have HX := Lib.hid hx
              clear q3 j3 a3 hx hu2
              go_wp2_with ((with_reducible refine QI.out.mono ?_); rintro e w5 ⟨d, rfl, hd, hb5⟩; have HB5 := Lib.hid (HBr.out.trans (hb5.mono HBr.out.size)); have HD := Lib.hid hd; have hd2 : d ≤ 281476135337984 := (by rcases hd with ⟨h1, h2⟩ | ⟨h1, h2, h3⟩ <;> (try unfold B1 at *) <;> omega); clear hd hb5)
              go_roundw
              case rel => exact ⟨k + 1, c + d, by omega, by go_num, by go_num, Lib.hid (cnt_of (cnt_plus HCN.out hcm HD.out hm (by decide) (by decide)) (by rw [sum_next _ HX.out]; omega)), HB5⟩
              case measure => simp [intOf]; omega
            · clear hx
              have H9 := Lib.hid (cnt_end (S' := S0 + sumOf cText dest + sumOf cPhi phis + sumOf cInstr code) HCN.out hcm (by have := sum_le cInstr code k; omega))
              go_wp2
              go_ret
              exact ⟨c, rfl, cnt_of H9.out (by rw [← HS0.out]; unfold cBlock; simp only; try omega), HB.out.trans (HBr.out.mono HB.out.size)⟩
          · have H9 := Lib.hid (cnt_of (T := S0 + sumOf cText dest + sumOf cPhi phis + sumOf cInstr code) HCN.out (by rw [sum_all cInstr (by omega)]))
            go_wp2
            go_ret
            exact ⟨c, rfl, cnt_of H9.out (by rw [← HS0.out]; unfold cBlock; simp only; try omega), HB.out.trans (HBr.out.mono HB.out.size)⟩
    · have HST2 := Lib.hid (cnt_of (T := S0 + sumOf cText dest) HCN.out (by rw [sum_all cText (by omega)]))
      have f1 := holdF HO.out 1 rfl
      go_wp2
      clear f1 f7
      go_loop [5, 7, 8] (fun m i _ => ∃ (k c : Nat), k ≤ phis.length ∧ m = .int .i64 c ∧ i = .int .i64 k ∧ Hid (Cnt B2 most (S0 + sumOf cText dest + sumOf cPhi (phis.take k)) c)) (fun _ i _ => phis.length - (intOf i).toNat)
      case atStart => exact ⟨0, _, Nat.zero_le _, rfl, rfl, Lib.hid (by rw [sum_zero]; exact HST2.out)⟩
      case round =>
      obtain ⟨k, c, hk, rfl, rfl, HCN⟩ := hrel
      have f1 := holdF HO.out 1 rfl
      by_cases hlt : k < phis.length
      · obtain ⟨⟨pd, fv⟩, hx⟩ : ∃ y, phis[k]? = some y := ⟨_, List.getElem?_eq_getElem hlt⟩
        by_cases hcm : c ≤ most
        · obtain ⟨b3, of3, hn3, hm3, a3, j3⟩ := KP.out.get
          obtain ⟨rfl, _, hb3⟩ := a3 (by omega)
          obtain ⟨cs3, _, q3, u, rfl, hu⟩ := j3 k _ hx
          obtain ⟨B4, k4, rfl⟩ := hu.form
          simp only at hu q3
          obtain ⟨m0, m1⟩ := at2 q3
          obtain ⟨s1, s3⟩ := GP.out _ (List.mem_of_getElem? hx)
          simp only at s1 s3
          have HX := Lib.hid hx
          have HFV := Lib.hid hu
          have HGV := Lib.hid s3
          have hfl : fv.length ≤ 4611686018427387903 := by obtain ⟨_, _, _, h, _⟩ := hu.get; exact h
          clear q3 j3 a3 hx hu s3
          have HST := Lib.hid (cnt_val (m := c + 1 + pd.length) (cnt_add HCN.out hcm (a := 1 + pd.length) (by omega) hm (by decide)) (by omega))
          go_wp2
          go_loop [5, 8] (fun m i => ∃ (q c : Nat), q ≤ fv.length ∧ m = .int .i64 c ∧ i = .int .i64 q ∧ Hid (Cnt B2 most ((S0 + sumOf cText dest + sumOf cPhi (phis.take k) + (1 + pd.length)) + sumOf cBind (fv.take q)) c)) (fun _ i => fv.length - (intOf i).toNat)
          case atStart => exact ⟨0, _, Nat.zero_le _, rfl, rfl, Lib.hid (by rw [sum_zero]; exact HST.out)⟩
          case round =>
          obtain ⟨q, c, hq, rfl, rfl, HCN⟩ := hrel
          by_cases hqt : q < fv.length
          · obtain ⟨⟨bn, ⟨bq, bs, bi⟩⟩, hy⟩ : ∃ y, fv[q]? = some y := ⟨_, List.getElem?_eq_getElem hqt⟩
            by_cases hcm : c ≤ most
            · obtain ⟨b4, of4, hn4, hm4, a4, j4⟩ := HFV.out.get
              obtain ⟨rfl, _, hb4⟩ := a4 (by omega)
              obtain ⟨cs4, _, q4, rfl⟩ := j4 q _ hy
              obtain ⟨r0, r1, r2, r3⟩ := at4 q4
              obtain ⟨s1, s2⟩ := HGV.out _ (List.mem_of_getElem? hy)
              simp only at s1 s2 r0 r1 r2 r3
              have HY := Lib.hid hy
              clear q4 j4 a4 hy
              have h9 := cnt_add HCN.out hcm (a := 1 + bn.length) (by omega) hm (by decide)
              by_cases hc9 : c + 1 + bn.length ≤ most
              · have H9 := Lib.hid (cnt_add (cnt_of (T := (S0 + sumOf cText dest + sumOf cPhi (phis.take k) + (1 + pd.length)) + sumOf cBind (fv.take q) + (1 + bn.length)) h9 rfl) (by omega) (a := bs.length) (by omega) hm (by decide))
                clear h9
                go_wp2
                go_round
                case rel => exact ⟨q + 1, c + (1 + bn.length) + bs.length, by omega, by go_num, by go_num, Lib.hid (cnt_of H9.out (by rw [sum_next _ HY.out]; unfold cBind; simp only; omega))⟩
                case measure => simp [intOf]; omega
              · have H9 := Lib.hid h9
                clear h9
                go_wp2
                go_round
                case rel => exact ⟨q + 1, c + (1 + bn.length), by omega, by go_num, by go_num, Lib.hid (cnt_end H9.out (by omega) (by rw [sum_next _ HY.out]; unfold cBind; simp only; omega))⟩
                case measure => simp [intOf]; omega
            · clear hy
              have H9 := Lib.hid (cnt_end (S' := (S0 + sumOf cText dest + sumOf cPhi (phis.take k) + (1 + pd.length)) + sumOf cBind fv) HCN.out hcm (by have := sum_le cBind fv q; omega))
              go_wp2
              go_round
              case rel => exact ⟨k + 1, c, by omega, rfl, by go_num, Lib.hid (cnt_of H9.out (by rw [sum_next _ HX.out]; unfold cPhi; simp only; omega))⟩
              case measure => simp [intOf]; omega
          · have H9 := Lib.hid (cnt_of (T := (S0 + sumOf cText dest + sumOf cPhi (phis.take k) + (1 + pd.length)) + sumOf cBind fv) HCN.out (by rw [sum_all cBind (by omega)]))
            go_wp2
            go_round
            case rel => exact ⟨k + 1, c, by omega, rfl, by go_num, Lib.hid (cnt_of H9.out (by rw [sum_next _ HX.out]; unfold cPhi; simp only; omega))⟩
            case measure => simp [intOf]; omega
        · clear hx
          have HST3 := Lib.hid (cnt_end (S' := S0 + sumOf cText dest + sumOf cPhi phis) HCN.out hcm (by have := sum_le cPhi phis k; omega))
          have f2 := holdF HO.out 2 rfl
          go_wp2
          clear f1 f2
          go_loopw [5, 9] (fun m i wr => ∃ (k c : Nat), k ≤ code.length ∧ m = .int .i64 c ∧ i = .int .i64 k ∧ Hid (Cnt B2 most (S0 + sumOf cText dest + sumOf cPhi phis + sumOf cInstr (code.take k)) c) ∧ Hid (Below W.heap.size W wr)) (fun _ i _ => code.length - (intOf i).toNat)
          case atStart => exact ⟨0, _, Nat.zero_le _, rfl, rfl, Lib.hid (by rw [sum_zero]; exact HST3.out), Lib.hid (Below.refl _ _)⟩
          case round =>
          obtain ⟨k, c, hk, rfl, rfl, HCN, HBr⟩ := hrel
          have f2 := (HO.out.below HBr.out HO.out.lt).cell 2
          simp only [List.getElem?_cons_succ, List.getElem?_cons_zero] at f2
          by_cases hlt : k < code.length
          · obtain ⟨x, hx⟩ : ∃ y, code[k]? = some y := ⟨_, List.getElem?_eq_getElem hlt⟩
            by_cases hcm : c ≤ most
            · obtain ⟨b3, of3, hn3, hm3, a3, j3⟩ := KC.out.get
              obtain ⟨rfl, _, hb3⟩ := a3 (by omega)
              obtain ⟨cs3, _, q3, hu⟩ := j3 k _ hx
              have hu2 := InstrC.move (Still.of_below (HBr.out.mono HHW.out)) hu
              have QI := Lib.hid (cntInstr_any lo hi wr cs3 x hu2 (Nat.le_trans HHW.out HBr.out.size) most hm (GC.out _ (List.mem_of_getElem? hx)))
              obtain ⟨x1, x2, x3, e1', _⟩ := hu
              subst e1'
              obtain ⟨m0, m1, m2, m3, m4, m5⟩ := at6 (cells_later q3 HBr.out (by have := HHW.out; omega))
              have HX := Lib.hid hx
              clear q3 j3 a3 hx hu2
              go_wp2_with ((with_reducible refine QI.out.mono ?_); rintro e w5 ⟨d, rfl, hd, hb5⟩; have HB5 := Lib.hid (HBr.out.trans (hb5.mono HBr.out.size)); have HD := Lib.hid hd; have hd2 : d ≤ 281476135337984 := (by rcases hd with ⟨h1, h2⟩ | ⟨h1, h2, h3⟩ <;> (try unfold B1 at *) <;> omega); clear hd hb5)
              go_roundw
              case rel => exact ⟨k + 1, c + d, by omega, by go_num, by go_num, Lib.hid (cnt_of (cnt_plus HCN.out hcm HD.out hm (by decide) (by decide)) (by rw [sum_next _ HX.out]; omega)), HB5⟩
              case measure => simp [intOf]; omega
            · clear hx
              have H9 := Lib.hid (cnt_end (S' := S0 + sumOf cText dest + sumOf cPhi phis + sumOf cInstr code) HCN.out hcm (by have := sum_le cInstr code k; omega))
              go_wp2
              go_ret
              exact ⟨c, rfl, cnt_of H9.out (by rw [← HS0.out]; unfold cBlock; simp only; try omega), HB.out.trans (HBr.out.mono HB.out.size)⟩
          · have H9 := Lib.hid (cnt_of (T := S0 + sumOf cText dest + sumOf cPhi phis + sumOf cInstr code) HCN.out (by rw [sum_all cInstr (by omega)]))
            go_wp2
            go_ret
            exact ⟨c, rfl, cnt_of H9.out (by rw [← HS0.out]; unfold cBlock; simp only; try omega), HB.out.trans (HBr.out.mono HB.out.size)⟩
      · have HST3 := Lib.hid (cnt_of (T := S0 + sumOf cText dest + sumOf cPhi phis) HCN.out (by rw [sum_all cPhi (by omega)]))
        have f2 := holdF HO.out 2 rfl
        go_wp2
        clear f1 f2
        go_loopw [5, 9] (fun m i wr => ∃ (k c : Nat), k ≤ code.length ∧ m = .int .i64 c ∧ i = .int .i64 k ∧ Hid (Cnt B2 most (S0 + sumOf cText dest + sumOf cPhi phis + sumOf cInstr (code.take k)) c) ∧ Hid (Below W.heap.size W wr)) (fun _ i _ => code.length - (intOf i).toNat)
        case atStart => exact ⟨0, _, Nat.zero_le _, rfl, rfl, Lib.hid (by rw [sum_zero]; exact HST3.out), Lib.hid (Below.refl _ _)⟩
        case round =>
        obtain ⟨k, c, hk, rfl, rfl, HCN, HBr⟩ := hrel
        have f2 := (HO.out.below HBr.out HO.out.lt).cell 2
        simp only [List.getElem?_cons_succ, List.getElem?_cons_zero] at f2
        by_cases hlt : k < code.length
        · obtain ⟨x, hx⟩ : ∃ y, code[k]? = some y := ⟨_, List.getElem?_eq_getElem hlt⟩
          by_cases hcm : c ≤ most
          · obtain ⟨b3, of3, hn3, hm3, a3, j3⟩ := KC.out.get
            obtain ⟨rfl, _, hb3⟩ := a3 (by omega)
            obtain ⟨cs3, _, q3, hu⟩ := j3 k _ hx
            have hu2 := InstrC.move (Still.of_below (HBr.out.mono HHW.out)) hu
            have QI := Lib.hid (cntInstr_any lo hi wr cs3 x hu2 (Nat.le_trans HHW.out HBr.out.size) most hm (GC.out _ (List.mem_of_getElem? hx)))
            obtain ⟨x1, x2, x3, e1', _⟩ := hu
            subst e1'
            obtain ⟨m0, m1, m2, m3, m4, m5⟩ := at6 (cells_later q3 HBr.out (by have := HHW.out; omega))
            have HX := Lib.hid hx
            clear q3 j3 a3 hx hu2
            go_wp2_with ((with_reducible refine QI.out.mono ?_); rintro e w5 ⟨d, rfl, hd, hb5⟩; have HB5 := Lib.hid (HBr.out.trans (hb5.mono HBr.out.size)); have HD := Lib.hid hd; have hd2 : d ≤ 281476135337984 := (by rcases hd with ⟨h1, h2⟩ | ⟨h1, h2, h3⟩ <;> (try unfold B1 at *) <;> omega); clear hd hb5)
            go_roundw
            case rel => exact ⟨k + 1, c + d, by omega, by go_num, by go_num, Lib.hid (cnt_of (cnt_plus HCN.out hcm HD.out hm (by decide) (by decide)) (by rw [sum_next _ HX.out]; omega)), HB5⟩
            case measure => simp [intOf]; omega
          · clear hx
            have H9 := Lib.hid (cnt_end (S' := S0 + sumOf cText dest + sumOf cPhi phis + sumOf cInstr code) HCN.out hcm (by have := sum_le cInstr code k; omega))
            go_wp2
            go_ret
            exact ⟨c, rfl, cnt_of H9.out (by rw [← HS0.out]; unfold cBlock; simp only; try omega), HB.out.trans (HBr.out.mono HB.out.size)⟩
        · have H9 := Lib.hid (cnt_of (T := S0 + sumOf cText dest + sumOf cPhi phis + sumOf cInstr code) HCN.out (by rw [sum_all cInstr (by omega)]))
          go_wp2
          go_ret
          exact ⟨c, rfl, cnt_of H9.out (by rw [← HS0.out]; unfold cBlock; simp only; try omega), HB.out.trans (HBr.out.mono HB.out.size)⟩
  · obtain ⟨c0, hC0⟩ : ∃ c0 : Nat, 1 + nm.length = c0 := ⟨_, rfl⟩
    rw [hC0] at hs1 hc1
    have HST := Lib.hid hs1
    have hc0 := hc1
    have HC0 := Lib.hid (show ((1 : Int) + (nm.length : Int)) = (c0 : Int) by omega)
    have hz : ¬ ((1 : Int) + (nm.length : Int)) ≤ (most : Int) := by omega
    clear hs1 hc1 hC0
    go_enter Tryd.func39, Tryd.ntmps39
    go_wp2_with fail
    rw [HW.out]
    go_loop [5, 6] (fun m i => m = .int .i64 c0 ∧ i = .int .i64 0) (fun _ _ => 0)
    case atStart => exact ⟨by rw [HC0.out], rfl⟩
    case round =>
    obtain ⟨rfl, rfl⟩ := hrel
    have f1 := holdF HO.out 1 rfl
    have f7 := holdF HO.out 7 rfl
    have f2 := holdF HO.out 2 rfl
    by_cases h0 : 0 < dest.length
    all_goals
      go_wp2
      go_loop [5, 7, 8] (fun m i _ => m = .int .i64 c0 ∧ i = .int .i64 0) (fun _ _ _ => 0)
      case atStart => exact ⟨rfl, rfl⟩
      case round =>
      obtain ⟨rfl, rfl⟩ := hrel
      by_cases h1 : 0 < phis.length
      all_goals
        go_wp2
        go_loop [5, 9] (fun m i => m = .int .i64 c0 ∧ i = .int .i64 0) (fun _ _ => 0)
        case atStart => exact ⟨rfl, rfl⟩
        case round =>
        obtain ⟨rfl, rfl⟩ := hrel
        by_cases h2 : 0 < code.length
        all_goals
          go_wp2
          go_ret
          exact ⟨c0, rfl, cnt_end HST.out hc0 (by have := HC0.out; unfold cBlock; simp only; omega), HB.out⟩
end Go.Proofs.YtdgmdpphimenjaaDoor.Few6

/-
  The document's Few (layer 6): a function.
-/
namespace Go.Proofs.YtdgmdpphimenjaaDoor.Few6
open Go.RowKit Api Mem

def funcS (f : Api.Func) : Prop := (Sh f.name ∧ Sh f.result) ∧ (∀ v ∈ f.params, Sh v.name ∧ Sh v.type) ∧ (∀ v ∈ f.vars, Sh v.name ∧ Sh v.type) ∧ ∀ b ∈ f.blocks, blockS b
abbrev B3 : Nat := 281478282821632
set_option maxRecDepth 100000 in
set_option maxHeartbeats 16000000 in
theorem cntFunc_any (lo hi : Nat) (w : World) (cs : List Value) (x : Api.Func) (hx : FuncC lo hi w cs x) (hh : hi ≤ w.heap.size) (most : Nat) (hm : most ≤ 1073741824) (hG : funcS x) :
    Calls Tryd.prog 15 #[.agg cs.toArray, i64 most] w fun e w' => ∃ n : Nat, e = .returned (i64 n) ∧ Cnt B3 most (cFunc x) n ∧ Below w.heap.size w w' := by
  obtain ⟨u1, u2, u3, rfl, kp, kv, kb⟩ := hx
  obtain ⟨nm, rs, ps, vs, bl⟩ := x
  simp only at kp kv kb hG
  obtain ⟨⟨g1, g2⟩, g3, g4, g5⟩ := hG
  simp only at g1 g2 g3 g4 g5
  obtain ⟨A1, k1, rfl⟩ := kp.form
  obtain ⟨A2, k2, rfl⟩ := kv.form
  obtain ⟨A3, k3, rfl⟩ := kb.form
  obtain ⟨W, hW⟩ : ∃ W, w.alloc (.cells #[str nm, str rs, .slice A1 ps.length k1, .slice A2 vs.length k2, .slice A3 bl.length k3] 37) = W := ⟨_, rfl⟩
  obtain ⟨o1, b1, z1⟩ := boxF (cs := [str nm, str rs, .slice A1 ps.length k1, .slice A2 vs.length k2, .slice A3 bl.length k3]) hW
  have kP := Vars.move (Still.of_below (b1.mono hh)) kp
  have kV := Vars.move (Still.of_below (b1.mono hh)) kv
  have kB := Blocks.move (Still.of_below (b1.mono hh)) kb
  have lB := kB.get
  have HO := Lib.hid o1
  have HB := Lib.hid b1
  have HW := Lib.hid hW
  have KB := Lib.hid kB
  have GB := Lib.hid g5
  have QP := Lib.hid (cntVars_any lo hi W _ ps kP most hm g3)
  have QV := Lib.hid (cntVars_any lo hi W _ vs kV most hm g4)
  have HHW : Hid (hi ≤ W.heap.size) := Lib.hid (by omega)
  have hlb : bl.length ≤ 4611686018427387903 := by obtain ⟨_, _, _, h, _⟩ := lB; exact h
  clear o1 b1 hW kp kv kb kP kV kB g3 g4 g5 lB
  by_cases hb1 : most < bl.length
  · have e1 : decide ((most : Int) < (bl.length : Int)) = true := decide_eq_true (by omega)
    go_enter Tryd.func15, Tryd.ntmps15
    go_wp2_with fail
    rw [HW.out]
    go_ret
    exact ⟨most + 1, by go_num, cnt_more (by unfold cFunc; simp only; have := sum_len cBlock bl (fun x => by unfold cBlock; omega); omega) hm (by decide), HB.out⟩
  have e1 : decide ((most : Int) < (bl.length : Int)) = false := decide_eq_false (by omega)
  obtain ⟨S0, hS0⟩ : ∃ S0, 1 + nm.length + rs.length + cVars ps + cVars vs = S0 := ⟨_, rfl⟩
  have hs1 : Cnt B3 most (1 + nm.length) (1 + nm.length) := cnt_start (by unfold B3; omega)
  have HS0 := Lib.hid hS0
  clear hS0
  by_cases hc1 : 1 + nm.length ≤ most
  · have hs2 := cnt_add hs1 hc1 (a := rs.length) (by omega) hm (by decide)
    by_cases hc2 : 1 + nm.length + rs.length ≤ most
    · have HS2 := Lib.hid hs2
      clear hs1 hs2
      go_enter Tryd.func15, Tryd.ntmps15
      go_wp2_with fail
      rw [HW.out]
      refine QP.out.mono ?_
      rintro e w5 ⟨d, rfl, hd, hw5⟩
      obtain rfl := hw5.symm
      have hd2 : d ≤ 281474976710656 := by rcases hd with ⟨h1, h2⟩ | ⟨h1, h2, h3⟩ <;> (try unfold B0 at *) <;> omega
      have hs3 := cnt_plus HS2.out hc2 hd hm (by decide) (by decide)
      have f3 := holdF HO.out 3 rfl
      by_cases hc3 : 1 + nm.length + rs.length + d ≤ most
      · have HS3 := Lib.hid hs3
        clear hs3 hd
        go_wp2_with fail
        refine QV.out.mono ?_
        rintro e w6 ⟨d2, rfl, hd3, hw6⟩
        obtain rfl := hw6.symm
        have hd4 : d2 ≤ 281474976710656 := by rcases hd3 with ⟨h1, h2⟩ | ⟨h1, h2, h3⟩ <;> (try unfold B0 at *) <;> omega
        have HST3 := Lib.hid (cnt_of (T := S0) (cnt_plus HS3.out hc3 hd3 hm (by decide) (by decide)) (by rw [← HS0.out]))
        clear hd3 f3
        go_wp2_with fail
        go_loopw [5, 6] (fun m i wr => ∃ (k c : Nat), k ≤ bl.length ∧ m = .int .i64 c ∧ i = .int .i64 k ∧ Hid (Cnt B3 most (S0 + sumOf cBlock (bl.take k)) c) ∧ Hid (Below W.heap.size W wr)) (fun _ i _ => bl.length - (intOf i).toNat)
        case atStart => exact ⟨0, _, Nat.zero_le _, rfl, rfl, Lib.hid (by rw [sum_zero]; exact HST3.out), Lib.hid (Below.refl _ _)⟩
        case round =>
        obtain ⟨k, c, hk, rfl, rfl, HCN, HBr⟩ := hrel
        have f4 := (HO.out.below HBr.out HO.out.lt).cell 4
        simp only [List.getElem?_cons_succ, List.getElem?_cons_zero] at f4
        by_cases hlt : k < bl.length
        · obtain ⟨⟨bn, phs, cod, ⟨tk, ⟨ak, as_, an⟩, td, tn⟩⟩, hx⟩ : ∃ y, bl[k]? = some y := ⟨_, List.getElem?_eq_getElem hlt⟩
          by_cases hcm : c ≤ most
          · obtain ⟨b3, of3, hn3, hm3, a3, j3⟩ := KB.out.get
            obtain ⟨rfl, _, hb3⟩ := a3 (by omega)
            obtain ⟨cs3, _, q3, hu⟩ := j3 k _ hx
            have hu2 := BlockC.move (Still.of_below (HBr.out.mono HHW.out)) hu
            have QI := Lib.hid (cntBlock_any lo hi wr cs3 _ hu2 (Nat.le_trans HHW.out HBr.out.size) most hm (GB.out _ (List.mem_of_getElem? hx)))
            obtain ⟨x1, x2, x3, e1', _, _, x4, e2', _⟩ := hu
            subst e2'
            subst e1'
            obtain ⟨m0, m1, m2, m3, m4, m5, m6, m7, m8⟩ := at9 (cells_later q3 HBr.out (by have := HHW.out; omega))
            have HX := Lib.hid hx
            clear q3 j3 a3 hx hu2
            go_wp2_with ((with_reducible refine QI.out.mono ?_); rintro e w5 ⟨d, rfl, hd, hb5⟩; have HB5 := Lib.hid (HBr.out.trans (hb5.mono HBr.out.size)); have HD := Lib.hid hd; have hd2 : d ≤ 281477209079808 := (by rcases hd with ⟨h1, h2⟩ | ⟨h1, h2, h3⟩ <;> (try unfold B2 at *) <;> omega); clear hd hb5)
            go_roundw
            case rel => exact ⟨k + 1, c + d, by omega, by go_num, by go_num, Lib.hid (cnt_of (cnt_plus HCN.out hcm HD.out hm (by decide) (by decide)) (by rw [sum_next _ HX.out]; omega)), HB5⟩
            case measure => simp [intOf]; omega
          · clear hx
            have H9 := Lib.hid (cnt_end (S' := S0 + sumOf cBlock bl) HCN.out hcm (by have := sum_le cBlock bl k; omega))
            go_wp2
            go_ret
            exact ⟨c, rfl, cnt_of H9.out (by rw [← HS0.out]; unfold cFunc; simp only; try omega), HB.out.trans (HBr.out.mono HB.out.size)⟩
        · have H9 := Lib.hid (cnt_of (T := S0 + sumOf cBlock bl) HCN.out (by rw [sum_all cBlock (by omega)]))
          go_wp2
          go_ret
          exact ⟨c, rfl, cnt_of H9.out (by rw [← HS0.out]; unfold cFunc; simp only; try omega), HB.out.trans (HBr.out.mono HB.out.size)⟩
      · obtain ⟨c0, hC0⟩ : ∃ c0 : Nat, 1 + nm.length + rs.length + d = c0 := ⟨_, rfl⟩
        rw [hC0] at hs3 hc3
        have HST := Lib.hid hs3
        have hc0 := hc3
        have HC0 := Lib.hid (show ((1 : Int) + (nm.length : Int) + (rs.length : Int) + (d : Int)) = (c0 : Int) by omega)
        have HC1 : Hid (1 + nm.length + rs.length + cVars ps ≤ cFunc ⟨nm, rs, ps, vs, bl⟩) := Lib.hid (by unfold cFunc; simp only; omega)
        have hz : ¬ ((1 : Int) + (nm.length : Int) + (rs.length : Int) + (d : Int)) ≤ (most : Int) := by omega
        clear hs3 hc3 hC0 f3 hd
        go_wp2_with fail
        go_loop [5, 6] (fun m i => m = .int .i64 c0 ∧ i = .int .i64 0) (fun _ _ => 0)
        case atStart => exact ⟨by rw [HC0.out], rfl⟩
        case round =>
        obtain ⟨rfl, rfl⟩ := hrel
        have f4 := holdF HO.out 4 rfl
        by_cases h0 : 0 < bl.length
        all_goals
          go_wp2
          go_ret
          exact ⟨c0, rfl, cnt_end HST.out hc0 HC1.out, HB.out⟩
    · obtain ⟨c0, hC0⟩ : ∃ c0 : Nat, 1 + nm.length + rs.length = c0 := ⟨_, rfl⟩
      rw [hC0] at hs2 hc2
      have HST := Lib.hid hs2
      have hc0 := hc2
      have HC0 := Lib.hid (show ((1 : Int) + (nm.length : Int) + (rs.length : Int)) = (c0 : Int) by omega)
      have HC1 : Hid (c0 ≤ cFunc ⟨nm, rs, ps, vs, bl⟩) := Lib.hid (by unfold cFunc; simp only; omega)
      have hz : ¬ ((1 : Int) + (nm.length : Int) + (rs.length : Int)) ≤ (most : Int) := by omega
      clear hs1 hs2 hc2 hC0
      go_enter Tryd.func15, Tryd.ntmps15
      go_wp2_with fail
      rw [HW.out]
      go_loop [5, 6] (fun m i => m = .int .i64 c0 ∧ i = .int .i64 0) (fun _ _ => 0)
      case atStart => exact ⟨by rw [HC0.out], rfl⟩
      case round =>
      obtain ⟨rfl, rfl⟩ := hrel
      have f4 := holdF HO.out 4 rfl
      by_cases h0 : 0 < bl.length
      all_goals
        go_wp2
        go_ret
        exact ⟨c0, rfl, cnt_end HST.out hc0 HC1.out, HB.out⟩
  · obtain ⟨c0, hC0⟩ : ∃ c0 : Nat, 1 + nm.length = c0 := ⟨_, rfl⟩
    rw [hC0] at hs1 hc1
    have HST := Lib.hid hs1
    have hc0 := hc1
    have HC0 := Lib.hid (show ((1 : Int) + (nm.length : Int)) = (c0 : Int) by omega)
    have HC1 : Hid (c0 ≤ cFunc ⟨nm, rs, ps, vs, bl⟩) := Lib.hid (by unfold cFunc; simp only; omega)
    have hz : ¬ ((1 : Int) + (nm.length : Int)) ≤ (most : Int) := by omega
    clear hs1 hc1 hC0
    go_enter Tryd.func15, Tryd.ntmps15
    go_wp2_with fail
    rw [HW.out]
    go_loop [5, 6] (fun m i => m = .int .i64 c0 ∧ i = .int .i64 0) (fun _ _ => 0)
    case atStart => exact ⟨by rw [HC0.out], rfl⟩
    case round =>
    obtain ⟨rfl, rfl⟩ := hrel
    have f4 := holdF HO.out 4 rfl
    by_cases h0 : 0 < bl.length
    all_goals
      go_wp2
      go_ret
      exact ⟨c0, rfl, cnt_end HST.out hc0 HC1.out, HB.out⟩
end Go.Proofs.YtdgmdpphimenjaaDoor.Few6

/-
  The document's Few (layer 6): a program.
-/
namespace Go.Proofs.YtdgmdpphimenjaaDoor.Few6
open Go.RowKit Api Mem

def fewB (most : Nat) (p : Prog) : Bool := decide (p.classes.length ≤ 50) && (decide (p.externs.length ≤ 50) && (decide (p.funcs.length ≤ 50) && decide (cProg p ≤ most)))
theorem fewB_no {most : Nat} {p : Prog} (h : most < cProg p) : fewB most p = false := by
  unfold fewB
  rw [decide_eq_false (by omega : ¬ cProg p ≤ most)]
  simp
theorem fewB_yes {B most c : Nat} {p : Prog} (h : Cnt B most (cProg p) c) (h1 : p.classes.length ≤ 50) (h2 : p.externs.length ≤ 50) (h3 : p.funcs.length ≤ 50) : fewB most p = decide (c ≤ most) := by
  unfold fewB
  rw [decide_eq_true h1, decide_eq_true h2, decide_eq_true h3]
  simp only [Bool.true_and]
  rcases h with ⟨h4, h5⟩ | ⟨h4, h5, _⟩
  · rw [decide_eq_true h4, decide_eq_true (by omega)]
  · rw [decide_eq_false (by omega), decide_eq_false (by omega)]
def progS (p : Prog) : Prop := (∀ c ∈ p.classes, Sh c.name ∧ ∀ v ∈ c.fields, Sh v.name ∧ Sh v.type) ∧ (∀ v ∈ p.globals, Sh v.name ∧ Sh v.type) ∧ (∀ e ∈ p.externs, Sh e.name) ∧ ∀ f ∈ p.funcs, funcS f
abbrev B4 : Nat := 281479356563456
set_option maxRecDepth 100000 in
set_option maxHeartbeats 16000000 in
theorem few_any (lo hi : Nat) (w : World) (cs : List Value) (x : Prog) (hx : ProgC lo hi w cs x) (hh : hi ≤ w.heap.size) (most : Nat) (hm : most ≤ 1073741824) (hG : progS x) :
    Calls Tryd.prog 6 #[.agg cs.toArray, i64 most] w fun e w' => e = .returned (.bool (fewB most x)) ∧ Below w.heap.size w w' := by
  obtain ⟨u1, u2, u3, u4, rfl, kc, kg, ke, kf⟩ := hx
  obtain ⟨ssa, cl, gl, ex, fu⟩ := x
  simp only at kc kg ke kf hG
  obtain ⟨g1, g2, g3, g4⟩ := hG
  simp only at g1 g2 g3 g4
  obtain ⟨A1, k1, rfl⟩ := kc.form
  obtain ⟨A2, k2, rfl⟩ := kg.form
  obtain ⟨A3, k3, rfl⟩ := ke.form
  obtain ⟨A4, k4, rfl⟩ := kf.form
  obtain ⟨W, hW⟩ : ∃ W, w.alloc (.cells #[.bool ssa, .slice A1 cl.length k1, .slice A2 gl.length k2, .slice A3 ex.length k3, .slice A4 fu.length k4] 27) = W := ⟨_, rfl⟩
  obtain ⟨o1, b1, z1⟩ := boxF (cs := [.bool ssa, .slice A1 cl.length k1, .slice A2 gl.length k2, .slice A3 ex.length k3, .slice A4 fu.length k4]) hW
  have kC := Classes.move (Still.of_below (b1.mono hh)) kc
  have kG := Vars.move (Still.of_below (b1.mono hh)) kg
  have kE := Externs.move (Still.of_below (b1.mono hh)) ke
  have kF := Funcs.move (Still.of_below (b1.mono hh)) kf
  have HO := Lib.hid o1
  have HB := Lib.hid b1
  have HW := Lib.hid hW
  have KC := Lib.hid kC
  have KE := Lib.hid kE
  have KF := Lib.hid kF
  have GC := Lib.hid g1
  have GE := Lib.hid g3
  have GF := Lib.hid g4
  have QG := Lib.hid (cntVars_any lo hi W _ gl kG most hm g2)
  have HHW : Hid (hi ≤ W.heap.size) := Lib.hid (by omega)
  clear o1 b1 hW kc kg ke kf kC kG kE kF g1 g2 g3 g4
  by_cases hb1 : 50 < cl.length
  · have e1 : decide ((50 : Int) < (cl.length : Int)) = true := decide_eq_true (by omega)
    go_enter Tryd.func6, Tryd.ntmps6
    go_wp2_with fail
    rw [HW.out]
    go_ret
    exact ⟨by unfold fewB; rw [decide_eq_false (by simp only; omega)]; rfl, HB.out⟩
  have e1 : decide ((50 : Int) < (cl.length : Int)) = false := decide_eq_false (by omega)
  by_cases hb2 : 50 < ex.length
  · have e2 : decide ((50 : Int) < (ex.length : Int)) = true := decide_eq_true (by omega)
    go_enter Tryd.func6, Tryd.ntmps6
    go_wp2_with fail
    rw [HW.out]
    go_ret
    exact ⟨by unfold fewB; rw [decide_eq_false (by simp only; omega : ¬ (⟨ssa, cl, gl, ex, fu⟩ : Prog).externs.length ≤ 50)]; simp, HB.out⟩
  have e2 : decide ((50 : Int) < (ex.length : Int)) = false := decide_eq_false (by omega)
  by_cases hb3 : 50 < fu.length
  · have e3 : decide ((50 : Int) < (fu.length : Int)) = true := decide_eq_true (by omega)
    go_enter Tryd.func6, Tryd.ntmps6
    go_wp2_with fail
    rw [HW.out]
    go_ret
    exact ⟨by unfold fewB; rw [decide_eq_false (by simp only; omega : ¬ (⟨ssa, cl, gl, ex, fu⟩ : Prog).funcs.length ≤ 50)]; simp, HB.out⟩
  have e3 : decide ((50 : Int) < (fu.length : Int)) = false := decide_eq_false (by omega)
  have HL1 : Hid ((⟨ssa, cl, gl, ex, fu⟩ : Prog).classes.length ≤ 50) := Lib.hid (by simp only; omega)
  have HL2 : Hid ((⟨ssa, cl, gl, ex, fu⟩ : Prog).externs.length ≤ 50) := Lib.hid (by simp only; omega)
  have HL3 : Hid ((⟨ssa, cl, gl, ex, fu⟩ : Prog).funcs.length ≤ 50) := Lib.hid (by simp only; omega)
  go_enter Tryd.func6, Tryd.ntmps6
  go_wp2_with fail
  rw [HW.out]
  refine QG.out.mono ?_
  rintro e w5 ⟨d, rfl, hd, hw5⟩
  obtain rfl := hw5.symm
  have hd2 : d ≤ 281474976710656 := by rcases hd with ⟨h1, h2⟩ | ⟨h1, h2, h3⟩ <;> (try unfold B0 at *) <;> omega
  have HST : Hid (Cnt B4 most (cVars gl) d) := Lib.hid (by rcases hd with h | ⟨h1, h2, h3⟩; exact .inl h; exact .inr ⟨h1, h2, Nat.le_trans h3 (by decide)⟩)
  have f1 := holdF HO.out 1 rfl
  clear hd
  go_wp2_with fail
  clear f1
  go_loop [5, 6] (fun m i => ∃ (k c : Nat), k ≤ cl.length ∧ m = .int .i64 c ∧ i = .int .i64 k ∧ Hid (Cnt B4 most (cVars gl + sumOf cClass (cl.take k)) c)) (fun _ i => cl.length - (intOf i).toNat)
  case atStart => exact ⟨0, _, Nat.zero_le _, rfl, rfl, Lib.hid (by rw [sum_zero]; exact HST.out)⟩
  case round =>
  obtain ⟨k, c, hk, rfl, rfl, HCN⟩ := hrel
  have f1 := holdF HO.out 1 rfl
  by_cases hlt : k < cl.length
  · obtain ⟨⟨cn, fv⟩, hx⟩ : ∃ y, cl[k]? = some y := ⟨_, List.getElem?_eq_getElem hlt⟩
    by_cases hcm : c ≤ most
    · obtain ⟨b3, of3, hn3, hm3, a3, j3⟩ := KC.out.get
      obtain ⟨rfl, _, hb3⟩ := a3 (by omega)
      obtain ⟨cs3, _, q3, u, rfl, hu⟩ := j3 k _ hx
      obtain ⟨B4', k4', rfl⟩ := hu.form
      simp only at hu q3
      obtain ⟨m0, m1⟩ := at2 q3
      obtain ⟨s1, s2⟩ := GC.out _ (List.mem_of_getElem? hx)
      simp only at s1 s2
      have HX := Lib.hid hx
      have QV := Lib.hid (cntVars_any lo hi W _ fv hu most hm s2)
      clear q3 j3 a3 hx hu s2
      have h7 := cnt_add HCN.out hcm (a := cn.length) (by omega) hm (by decide)
      by_cases hc7 : c + cn.length ≤ most
      · have H7 := Lib.hid h7
        clear h7
        go_wp2_with ((with_reducible refine QV.out.mono ?_); rintro e w5 ⟨d, rfl, hd, hw5⟩; obtain rfl := hw5.symm; have HD := Lib.hid hd; have hd2 : d ≤ 281474976710656 := (by rcases hd with ⟨h1, h2⟩ | ⟨h1, h2, h3⟩ <;> (try unfold B0 at *) <;> omega); clear hd)
        go_round
        case rel => exact ⟨k + 1, c + cn.length + d, by omega, by go_num, by go_num, Lib.hid (cnt_of (cnt_plus H7.out hc7 HD.out hm (by decide) (by decide)) (by rw [sum_next _ HX.out]; unfold cClass; simp only; omega))⟩
        case measure => simp [intOf]; omega
      · have H7 := Lib.hid h7
        clear h7
        go_wp2
        go_round
        case rel => exact ⟨k + 1, c + cn.length, by omega, by go_num, by go_num, Lib.hid (cnt_end H7.out hc7 (by rw [sum_next _ HX.out]; unfold cClass; simp only; omega))⟩
        case measure => simp [intOf]; omega
    · clear hx
      have HST2 := Lib.hid (cnt_end (S' := cVars gl + sumOf cClass cl) HCN.out hcm (by have := sum_le cClass cl k; omega))
      have f3 := holdF HO.out 3 rfl
      go_wp2
      clear f1 f3
      go_loop [5, 7] (fun m i => ∃ (k c : Nat), k ≤ ex.length ∧ m = .int .i64 c ∧ i = .int .i64 k ∧ Hid (Cnt B4 most (cVars gl + sumOf cClass cl + sumOf cExt (ex.take k)) c)) (fun _ i => ex.length - (intOf i).toNat)
      case atStart => exact ⟨0, _, Nat.zero_le _, rfl, rfl, Lib.hid (by rw [sum_zero]; exact HST2.out)⟩
      case round =>
      obtain ⟨k, c, hk, rfl, rfl, HCN⟩ := hrel
      have f3 := holdF HO.out 3 rfl
      by_cases hlt : k < ex.length
      · obtain ⟨⟨en, ek⟩, hx⟩ : ∃ y, ex[k]? = some y := ⟨_, List.getElem?_eq_getElem hlt⟩
        by_cases hcm : c ≤ most
        · obtain ⟨b3, of3, hn3, hm3, a3, j3⟩ := KE.out.get
          obtain ⟨rfl, _, hb3⟩ := a3 (by omega)
          obtain ⟨cs3, _, q3, rfl⟩ := j3 k _ hx
          obtain ⟨m0, m1⟩ := at2 q3
          have s1 := GE.out _ (List.mem_of_getElem? hx)
          simp only at m0 m1 s1
          have HX := Lib.hid hx
          clear q3 j3 a3 hx
          have H7 := Lib.hid (cnt_add HCN.out hcm (a := 1 + en.length) (by omega) hm (by decide))
          go_wp2
          go_round
          case rel => exact ⟨k + 1, c + (1 + en.length), by omega, by go_num, by go_num, Lib.hid (cnt_of H7.out (by rw [sum_next _ HX.out]; unfold cExt; simp only; omega))⟩
          case measure => simp [intOf]; omega
        · clear hx
          have HST3 := Lib.hid (cnt_end (S' := cVars gl + sumOf cClass cl + sumOf cExt ex) HCN.out hcm (by have := sum_le cExt ex k; omega))
          have f4 := holdF HO.out 4 rfl
          go_wp2
          clear f3 f4
          go_loopw [5, 8] (fun m i wr => ∃ (k c : Nat), k ≤ fu.length ∧ m = .int .i64 c ∧ i = .int .i64 k ∧ Hid (Cnt B4 most (cVars gl + sumOf cClass cl + sumOf cExt ex + sumOf cFunc (fu.take k)) c) ∧ Hid (Below W.heap.size W wr)) (fun _ i _ => fu.length - (intOf i).toNat)
          case atStart => exact ⟨0, _, Nat.zero_le _, rfl, rfl, Lib.hid (by rw [sum_zero]; exact HST3.out), Lib.hid (Below.refl _ _)⟩
          case round =>
          obtain ⟨k, c, hk, rfl, rfl, HCN, HBr⟩ := hrel
          have f4 := (HO.out.below HBr.out HO.out.lt).cell 4
          simp only [List.getElem?_cons_succ, List.getElem?_cons_zero] at f4
          by_cases hlt : k < fu.length
          · obtain ⟨x, hx⟩ : ∃ y, fu[k]? = some y := ⟨_, List.getElem?_eq_getElem hlt⟩
            by_cases hcm : c ≤ most
            · obtain ⟨b3, of3, hn3, hm3, a3, j3⟩ := KF.out.get
              obtain ⟨rfl, _, hb3⟩ := a3 (by omega)
              obtain ⟨cs3, _, q3, hu⟩ := j3 k _ hx
              have hu2 := FuncC.move (Still.of_below (HBr.out.mono HHW.out)) hu
              have QI := Lib.hid (cntFunc_any lo hi wr cs3 x hu2 (Nat.le_trans HHW.out HBr.out.size) most hm (GF.out _ (List.mem_of_getElem? hx)))
              obtain ⟨x1, x2, x3, e1', _⟩ := hu
              subst e1'
              obtain ⟨m0, m1, m2, m3, m4⟩ := at5 (cells_later q3 HBr.out (by have := HHW.out; omega))
              have HX := Lib.hid hx
              clear q3 j3 a3 hx hu2
              go_wp2_with ((with_reducible refine QI.out.mono ?_); rintro e w5 ⟨d, rfl, hd, hb5⟩; have HB5 := Lib.hid (HBr.out.trans (hb5.mono HBr.out.size)); have HD := Lib.hid hd; have hd2 : d ≤ 281478282821632 := (by rcases hd with ⟨h1, h2⟩ | ⟨h1, h2, h3⟩ <;> (try unfold B3 at *) <;> omega); clear hd hb5)
              go_roundw
              case rel => exact ⟨k + 1, c + d, by omega, by go_num, by go_num, Lib.hid (cnt_of (cnt_plus HCN.out hcm HD.out hm (by decide) (by decide)) (by rw [sum_next _ HX.out]; omega)), HB5⟩
              case measure => simp [intOf]; omega
            · clear hx
              have hbig : most < cProg ⟨ssa, cl, gl, ex, fu⟩ := by
                rcases HCN.out with ⟨h1, h2⟩ | ⟨h1, h2, h3⟩
                · omega
                · have := sum_le cFunc fu k
                  unfold cProg; simp only; omega
              have HBG := Lib.hid hbig
              clear hbig
              have hdf : decide ((c : Int) ≤ (most : Int)) = false := decide_eq_false (by omega)
              go_wp2
              go_ret
              exact ⟨by rw [fewB_no HBG.out]; rfl, HB.out.trans (HBr.out.mono HB.out.size)⟩
          · have H9 := Lib.hid (cnt_of (T := cVars gl + sumOf cClass cl + sumOf cExt ex + sumOf cFunc fu) HCN.out (by rw [sum_all cFunc (by omega)]))
            have HS1 : Hid (decide (c ≤ most) = fewB most ⟨ssa, cl, gl, ex, fu⟩) := by
              refine Lib.hid ?_
              have e : cVars gl + sumOf cClass cl + sumOf cExt ex + sumOf cFunc fu = cProg ⟨ssa, cl, gl, ex, fu⟩ := rfl
              have h9 := H9.out
              rw [e] at h9
              exact (fewB_yes h9 HL1.out HL2.out HL3.out).symm
            go_wp2
            go_ret
            exact ⟨by rw [← HS1.out]; rfl, HB.out.trans (HBr.out.mono HB.out.size)⟩
      · have HST3 := Lib.hid (cnt_of (T := cVars gl + sumOf cClass cl + sumOf cExt ex) HCN.out (by rw [sum_all cExt (by omega)]))
        have f4 := holdF HO.out 4 rfl
        go_wp2
        clear f3 f4
        go_loopw [5, 8] (fun m i wr => ∃ (k c : Nat), k ≤ fu.length ∧ m = .int .i64 c ∧ i = .int .i64 k ∧ Hid (Cnt B4 most (cVars gl + sumOf cClass cl + sumOf cExt ex + sumOf cFunc (fu.take k)) c) ∧ Hid (Below W.heap.size W wr)) (fun _ i _ => fu.length - (intOf i).toNat)
        case atStart => exact ⟨0, _, Nat.zero_le _, rfl, rfl, Lib.hid (by rw [sum_zero]; exact HST3.out), Lib.hid (Below.refl _ _)⟩
        case round =>
        obtain ⟨k, c, hk, rfl, rfl, HCN, HBr⟩ := hrel
        have f4 := (HO.out.below HBr.out HO.out.lt).cell 4
        simp only [List.getElem?_cons_succ, List.getElem?_cons_zero] at f4
        by_cases hlt : k < fu.length
        · obtain ⟨x, hx⟩ : ∃ y, fu[k]? = some y := ⟨_, List.getElem?_eq_getElem hlt⟩
          by_cases hcm : c ≤ most
          · obtain ⟨b3, of3, hn3, hm3, a3, j3⟩ := KF.out.get
            obtain ⟨rfl, _, hb3⟩ := a3 (by omega)
            obtain ⟨cs3, _, q3, hu⟩ := j3 k _ hx
            have hu2 := FuncC.move (Still.of_below (HBr.out.mono HHW.out)) hu
            have QI := Lib.hid (cntFunc_any lo hi wr cs3 x hu2 (Nat.le_trans HHW.out HBr.out.size) most hm (GF.out _ (List.mem_of_getElem? hx)))
            obtain ⟨x1, x2, x3, e1', _⟩ := hu
            subst e1'
            obtain ⟨m0, m1, m2, m3, m4⟩ := at5 (cells_later q3 HBr.out (by have := HHW.out; omega))
            have HX := Lib.hid hx
            clear q3 j3 a3 hx hu2
            go_wp2_with ((with_reducible refine QI.out.mono ?_); rintro e w5 ⟨d, rfl, hd, hb5⟩; have HB5 := Lib.hid (HBr.out.trans (hb5.mono HBr.out.size)); have HD := Lib.hid hd; have hd2 : d ≤ 281478282821632 := (by rcases hd with ⟨h1, h2⟩ | ⟨h1, h2, h3⟩ <;> (try unfold B3 at *) <;> omega); clear hd hb5)
            go_roundw
            case rel => exact ⟨k + 1, c + d, by omega, by go_num, by go_num, Lib.hid (cnt_of (cnt_plus HCN.out hcm HD.out hm (by decide) (by decide)) (by rw [sum_next _ HX.out]; omega)), HB5⟩
            case measure => simp [intOf]; omega
          · clear hx
            have hbig : most < cProg ⟨ssa, cl, gl, ex, fu⟩ := by
              rcases HCN.out with ⟨h1, h2⟩ | ⟨h1, h2, h3⟩
              · omega
              · have := sum_le cFunc fu k
                unfold cProg; simp only; omega
            have HBG := Lib.hid hbig
            clear hbig
            have hdf : decide ((c : Int) ≤ (most : Int)) = false := decide_eq_false (by omega)
            go_wp2
            go_ret
            exact ⟨by rw [fewB_no HBG.out]; rfl, HB.out.trans (HBr.out.mono HB.out.size)⟩
        · have H9 := Lib.hid (cnt_of (T := cVars gl + sumOf cClass cl + sumOf cExt ex + sumOf cFunc fu) HCN.out (by rw [sum_all cFunc (by omega)]))
          have HS1 : Hid (decide (c ≤ most) = fewB most ⟨ssa, cl, gl, ex, fu⟩) := by
            refine Lib.hid ?_
            have e : cVars gl + sumOf cClass cl + sumOf cExt ex + sumOf cFunc fu = cProg ⟨ssa, cl, gl, ex, fu⟩ := rfl
            have h9 := H9.out
            rw [e] at h9
            exact (fewB_yes h9 HL1.out HL2.out HL3.out).symm
          go_wp2
          go_ret
          exact ⟨by rw [← HS1.out]; rfl, HB.out.trans (HBr.out.mono HB.out.size)⟩
  · have HST2 := Lib.hid (cnt_of (T := cVars gl + sumOf cClass cl) HCN.out (by rw [sum_all cClass (by omega)]))
    have f3 := holdF HO.out 3 rfl
    go_wp2
    clear f1 f3
    go_loop [5, 7] (fun m i => ∃ (k c : Nat), k ≤ ex.length ∧ m = .int .i64 c ∧ i = .int .i64 k ∧ Hid (Cnt B4 most (cVars gl + sumOf cClass cl + sumOf cExt (ex.take k)) c)) (fun _ i => ex.length - (intOf i).toNat)
    case atStart => exact ⟨0, _, Nat.zero_le _, rfl, rfl, Lib.hid (by rw [sum_zero]; exact HST2.out)⟩
    case round =>
    obtain ⟨k, c, hk, rfl, rfl, HCN⟩ := hrel
    have f3 := holdF HO.out 3 rfl
    by_cases hlt : k < ex.length
    · obtain ⟨⟨en, ek⟩, hx⟩ : ∃ y, ex[k]? = some y := ⟨_, List.getElem?_eq_getElem hlt⟩
      by_cases hcm : c ≤ most
      · obtain ⟨b3, of3, hn3, hm3, a3, j3⟩ := KE.out.get
        obtain ⟨rfl, _, hb3⟩ := a3 (by omega)
        obtain ⟨cs3, _, q3, rfl⟩ := j3 k _ hx
        obtain ⟨m0, m1⟩ := at2 q3
        have s1 := GE.out _ (List.mem_of_getElem? hx)
        simp only at m0 m1 s1
        have HX := Lib.hid hx
        clear q3 j3 a3 hx
        have H7 := Lib.hid (cnt_add HCN.out hcm (a := 1 + en.length) (by omega) hm (by decide))
        go_wp2
        go_round
        case rel => exact ⟨k + 1, c + (1 + en.length), by omega, by go_num, by go_num, Lib.hid (cnt_of H7.out (by rw [sum_next _ HX.out]; unfold cExt; simp only; omega))⟩
        case measure => simp [intOf]; omega
      · clear hx
        have HST3 := Lib.hid (cnt_end (S' := cVars gl + sumOf cClass cl + sumOf cExt ex) HCN.out hcm (by have := sum_le cExt ex k; omega))
        have f4 := holdF HO.out 4 rfl
        go_wp2
        clear f3 f4
        go_loopw [5, 8] (fun m i wr => ∃ (k c : Nat), k ≤ fu.length ∧ m = .int .i64 c ∧ i = .int .i64 k ∧ Hid (Cnt B4 most (cVars gl + sumOf cClass cl + sumOf cExt ex + sumOf cFunc (fu.take k)) c) ∧ Hid (Below W.heap.size W wr)) (fun _ i _ => fu.length - (intOf i).toNat)
        case atStart => exact ⟨0, _, Nat.zero_le _, rfl, rfl, Lib.hid (by rw [sum_zero]; exact HST3.out), Lib.hid (Below.refl _ _)⟩
        case round =>
        obtain ⟨k, c, hk, rfl, rfl, HCN, HBr⟩ := hrel
        have f4 := (HO.out.below HBr.out HO.out.lt).cell 4
        simp only [List.getElem?_cons_succ, List.getElem?_cons_zero] at f4
        by_cases hlt : k < fu.length
        · obtain ⟨x, hx⟩ : ∃ y, fu[k]? = some y := ⟨_, List.getElem?_eq_getElem hlt⟩
          by_cases hcm : c ≤ most
          · obtain ⟨b3, of3, hn3, hm3, a3, j3⟩ := KF.out.get
            obtain ⟨rfl, _, hb3⟩ := a3 (by omega)
            obtain ⟨cs3, _, q3, hu⟩ := j3 k _ hx
            have hu2 := FuncC.move (Still.of_below (HBr.out.mono HHW.out)) hu
            have QI := Lib.hid (cntFunc_any lo hi wr cs3 x hu2 (Nat.le_trans HHW.out HBr.out.size) most hm (GF.out _ (List.mem_of_getElem? hx)))
            obtain ⟨x1, x2, x3, e1', _⟩ := hu
            subst e1'
            obtain ⟨m0, m1, m2, m3, m4⟩ := at5 (cells_later q3 HBr.out (by have := HHW.out; omega))
            have HX := Lib.hid hx
            clear q3 j3 a3 hx hu2
            go_wp2_with ((with_reducible refine QI.out.mono ?_); rintro e w5 ⟨d, rfl, hd, hb5⟩; have HB5 := Lib.hid (HBr.out.trans (hb5.mono HBr.out.size)); have HD := Lib.hid hd; have hd2 : d ≤ 281478282821632 := (by rcases hd with ⟨h1, h2⟩ | ⟨h1, h2, h3⟩ <;> (try unfold B3 at *) <;> omega); clear hd hb5)
            go_roundw
            case rel => exact ⟨k + 1, c + d, by omega, by go_num, by go_num, Lib.hid (cnt_of (cnt_plus HCN.out hcm HD.out hm (by decide) (by decide)) (by rw [sum_next _ HX.out]; omega)), HB5⟩
            case measure => simp [intOf]; omega
          · clear hx
            have hbig : most < cProg ⟨ssa, cl, gl, ex, fu⟩ := by
              rcases HCN.out with ⟨h1, h2⟩ | ⟨h1, h2, h3⟩
              · omega
              · have := sum_le cFunc fu k
                unfold cProg; simp only; omega
            have HBG := Lib.hid hbig
            clear hbig
            have hdf : decide ((c : Int) ≤ (most : Int)) = false := decide_eq_false (by omega)
            go_wp2
            go_ret
            exact ⟨by rw [fewB_no HBG.out]; rfl, HB.out.trans (HBr.out.mono HB.out.size)⟩
        · have H9 := Lib.hid (cnt_of (T := cVars gl + sumOf cClass cl + sumOf cExt ex + sumOf cFunc fu) HCN.out (by rw [sum_all cFunc (by omega)]))
          have HS1 : Hid (decide (c ≤ most) = fewB most ⟨ssa, cl, gl, ex, fu⟩) := by
            refine Lib.hid ?_
            have e : cVars gl + sumOf cClass cl + sumOf cExt ex + sumOf cFunc fu = cProg ⟨ssa, cl, gl, ex, fu⟩ := rfl
            have h9 := H9.out
            rw [e] at h9
            exact (fewB_yes h9 HL1.out HL2.out HL3.out).symm
          go_wp2
          go_ret
          exact ⟨by rw [← HS1.out]; rfl, HB.out.trans (HBr.out.mono HB.out.size)⟩
    · have HST3 := Lib.hid (cnt_of (T := cVars gl + sumOf cClass cl + sumOf cExt ex) HCN.out (by rw [sum_all cExt (by omega)]))
      have f4 := holdF HO.out 4 rfl
      go_wp2
      clear f3 f4
      go_loopw [5, 8] (fun m i wr => ∃ (k c : Nat), k ≤ fu.length ∧ m = .int .i64 c ∧ i = .int .i64 k ∧ Hid (Cnt B4 most (cVars gl + sumOf cClass cl + sumOf cExt ex + sumOf cFunc (fu.take k)) c) ∧ Hid (Below W.heap.size W wr)) (fun _ i _ => fu.length - (intOf i).toNat)
      case atStart => exact ⟨0, _, Nat.zero_le _, rfl, rfl, Lib.hid (by rw [sum_zero]; exact HST3.out), Lib.hid (Below.refl _ _)⟩
      case round =>
      obtain ⟨k, c, hk, rfl, rfl, HCN, HBr⟩ := hrel
      have f4 := (HO.out.below HBr.out HO.out.lt).cell 4
      simp only [List.getElem?_cons_succ, List.getElem?_cons_zero] at f4
      by_cases hlt : k < fu.length
      · obtain ⟨x, hx⟩ : ∃ y, fu[k]? = some y := ⟨_, List.getElem?_eq_getElem hlt⟩
        by_cases hcm : c ≤ most
        · obtain ⟨b3, of3, hn3, hm3, a3, j3⟩ := KF.out.get
          obtain ⟨rfl, _, hb3⟩ := a3 (by omega)
          obtain ⟨cs3, _, q3, hu⟩ := j3 k _ hx
          have hu2 := FuncC.move (Still.of_below (HBr.out.mono HHW.out)) hu
          have QI := Lib.hid (cntFunc_any lo hi wr cs3 x hu2 (Nat.le_trans HHW.out HBr.out.size) most hm (GF.out _ (List.mem_of_getElem? hx)))
          obtain ⟨x1, x2, x3, e1', _⟩ := hu
          subst e1'
          obtain ⟨m0, m1, m2, m3, m4⟩ := at5 (cells_later q3 HBr.out (by have := HHW.out; omega))
          have HX := Lib.hid hx
          clear q3 j3 a3 hx hu2
          go_wp2_with ((with_reducible refine QI.out.mono ?_); rintro e w5 ⟨d, rfl, hd, hb5⟩; have HB5 := Lib.hid (HBr.out.trans (hb5.mono HBr.out.size)); have HD := Lib.hid hd; have hd2 : d ≤ 281478282821632 := (by rcases hd with ⟨h1, h2⟩ | ⟨h1, h2, h3⟩ <;> (try unfold B3 at *) <;> omega); clear hd hb5)
          go_roundw
          case rel => exact ⟨k + 1, c + d, by omega, by go_num, by go_num, Lib.hid (cnt_of (cnt_plus HCN.out hcm HD.out hm (by decide) (by decide)) (by rw [sum_next _ HX.out]; omega)), HB5⟩
          case measure => simp [intOf]; omega
        · clear hx
          have hbig : most < cProg ⟨ssa, cl, gl, ex, fu⟩ := by
            rcases HCN.out with ⟨h1, h2⟩ | ⟨h1, h2, h3⟩
            · omega
            · have := sum_le cFunc fu k
              unfold cProg; simp only; omega
          have HBG := Lib.hid hbig
          clear hbig
          have hdf : decide ((c : Int) ≤ (most : Int)) = false := decide_eq_false (by omega)
          go_wp2
          go_ret
          exact ⟨by rw [fewB_no HBG.out]; rfl, HB.out.trans (HBr.out.mono HB.out.size)⟩
      · have H9 := Lib.hid (cnt_of (T := cVars gl + sumOf cClass cl + sumOf cExt ex + sumOf cFunc fu) HCN.out (by rw [sum_all cFunc (by omega)]))
        have HS1 : Hid (decide (c ≤ most) = fewB most ⟨ssa, cl, gl, ex, fu⟩) := by
          refine Lib.hid ?_
          have e : cVars gl + sumOf cClass cl + sumOf cExt ex + sumOf cFunc fu = cProg ⟨ssa, cl, gl, ex, fu⟩ := rfl
          have h9 := H9.out
          rw [e] at h9
          exact (fewB_yes h9 HL1.out HL2.out HL3.out).symm
        go_wp2
        go_ret
        exact ⟨by rw [← HS1.out]; rfl, HB.out.trans (HBr.out.mono HB.out.size)⟩
end Go.Proofs.YtdgmdpphimenjaaDoor.Few6
