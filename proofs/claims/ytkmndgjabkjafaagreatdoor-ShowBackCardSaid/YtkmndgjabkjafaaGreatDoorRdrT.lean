/-
  Package syntax: what takes one word of a line: next, name, kind, declared, number, count, value, argument, in; and stands, limit, refuse.
  Package syntax: name, kind, declared, number, count, value, argument, in; stands, limit.
  Package syntax: the reader as it stands between two words; stands, limit; an append to a row that is being built.
  Package syntax: lastFunc, lastBlock, lastInstr, lengthen.
  What a program that is being built in memory is behind a line inside a block: its end, a phi, an instruction, a frame, an object. No function of a program is named here.
-/
import Derived.Test.YtkmndgjabkjafaaGreatDoorHoldT
import Derived.Test.YtkmndgjabkjafaaGreatDoorCallsW
import Derived.Test.YtkmndgjabkjafaaGreatDoorCallsN
import Derived.WalkLawsBesides
import Derived.Lib.Hide
import Derived.Deep.AppendLies
import Derived.Deep.RegionLaw
import Derived.Deep.QuietTactic
import Derived.BigQuiet
namespace Go.Proofs.YtkmndgjabkjafaaGreatDoor.Rd5
open Go.RowKit Api Hold Mem Syn WordM

abbrev chain (k : Int) : List PanicEntry := [{ v := .iface 28 (.int .i64 k), recovered := false }]
theorem refuse_any (k : Int) (w : World) : Calls Tryz.prog 90 #[.int .i64 k] w fun e w' => e = .panicked (chain k) ∧ w = w' := by
  go_enter Tryz.func90, Tryz.ntmps90
  go_wp2
  exact ⟨rfl, rfl, rfl⟩

/-- The reader's cells. -/
structure RC where
  ssa : Value
  c : Value
  g : Value
  e : Value
  u : Value
  place : Int
  long : Int
  first : Value
  rest : Value
  over : Bool
def RC.l (rc : RC) : List Value := [rc.ssa, rc.c, rc.g, rc.e, rc.u, i64 rc.place, i64 rc.long, rc.first, rc.rest, .bool rc.over]
abbrev OwnR (w : World) (rb : Nat) (rc : RC) : Prop := Own w rb 64 rc.l

/-- v is a row of words. -/
def Ws (lo hi : Nat) (w : World) (v : Value) (l : List Wd) : Prop :=
  ∃ A n cap b off, v = .slice A n cap ∧ n = l.length ∧ n ≤ cap ∧ cap ≤ 9223372036854775807 ∧ (0 < n → A = some ⟨b, off, none⟩ ∧ lo ≤ b ∧ b < hi) ∧ (∀ i x, l[i]? = some x → w.cell? ⟨b, off + i, none⟩ = some (str x)) ∧ ∀ x ∈ l, x.length ≤ 4194304
variable {w w' w1 : World} {lo hi rb base : Nat} {rc : RC} {v : Value} {l ws : List Wd}
theorem Ws.move (h : Ws lo hi w v l) (hk : ∀ k, lo ≤ k → k < hi → w'.heap[k]? = w.heap[k]?) : Ws lo hi w' v l := by
  obtain ⟨A, n, cap, b, off, e, hn, hc, hm, ha, hw, hs⟩ := h
  refine ⟨A, n, cap, b, off, e, hn, hc, hm, ha, fun i x hx => ?_, hs⟩
  have hi := (List.getElem?_eq_some_iff.1 hx).1
  obtain ⟨_, h1, h2⟩ := ha (by omega)
  exact (World.cell?_of_block (w := w) (hk b h1 h2)).trans (hw i x hx)
theorem Ws.grown {row : Option Nat} (h : Ws lo hi w v l) (hg : w.grownBy w' row) (hr : ∀ k, row = some k → hi ≤ k) (hh : hi ≤ w.heap.size) : Ws lo hi w' v l :=
  h.move fun k _ hk => hg.block k (by omega) (fun e => by have := hr k e.symm; omega)
theorem own_far {row : Option Nat} (h : OwnR w rb rc) (hg : w.grownBy w' row) (hr : some rb ≠ row) : OwnR w' rb rc := (hg.block rb h.lt hr).trans h
theorem grown_trans {row : Option Nat} (h : w.grownBy w1 row) (h2 : w1.grownBy w' row) : w.grownBy w' row := h.trans h2
theorem grown_below {B : Nat} {row : Option Nat} (hB : w.heap.size ≤ B) (h : Below B w w') : w.grownBy w' row := ⟨h.os, h.tape, h.output, h.size, fun k hk _ => h.block k (by omega)⟩

/-- One or more words were taken: ws is left; nothing else has turned. -/
def Took (lo hi rb : Nat) (rc : RC) (ws : List Wd) (w w' : World) : Prop := ∃ v, OwnR w' rb { rc with rest := v } ∧ Ws lo hi w' v ws ∧ w.grownBy w' (some rb)
/-- What taking leaves: a value and the words behind it; or a panic with ErrSyntax. -/
def TakeR {β : Type} (val : β → Value) (r : Option (β × List Wd)) (lo hi rb : Nat) (rc : RC) (w : World) (e : Ending) (w' : World) : Prop :=
  match r with
  | some (y, ws) => e = .returned (val y) ∧ Took lo hi rb rc ws w w'
  | none => e = .panicked (chain 3) ∧ w.grownBy w' (some rb)

/-- The words as the walk meets them: none; or one, and the others. -/
theorem Ws.none (h : Ws lo hi w v []) : ∃ A cap, v = .slice A 0 cap := by
  obtain ⟨A, n, cap, b, off, e, rfl, _⟩ := h
  exact ⟨A, cap, e⟩
def takeWord : List Wd → Option (Wd × List Wd) | [] => none | x :: l => some (x, l)

theorem next_none (hO : OwnR w rb rc) (hW : Ws lo hi w rc.rest []) :
    Calls Tryz.prog 137 #[.pointer (some ⟨rb, 0, none⟩)] w fun e w' => e = .panicked (chain 3) ∧ w = w' := by
  have f8 := hO.cell 8
  obtain ⟨A, cap, e⟩ := hW.none
  simp only [RC.l] at f8
  rw [e] at f8
  simp only [List.getElem?_cons_succ, List.getElem?_cons_zero] at f8
  clear e hO hW
  go_enter Tryz.func137, Tryz.ntmps137
  go_wp2_with (go_at_call 90; (with_reducible refine (refuse_any _ _).mono ?_); rintro e w1 ⟨rfl, rfl⟩)
  exact ⟨rfl, rfl, rfl⟩
theorem next_some {x : Wd} (hO : OwnR w rb rc) (hW : Ws lo hi w rc.rest (x :: l)) (hh : hi ≤ rb) :
    Calls Tryz.prog 137 #[.pointer (some ⟨rb, 0, none⟩)] w fun e w' => e = .returned (str x) ∧ Took lo hi rb rc l w w' := by
  have f8 := hO.cell 8
  have z8 := hO.thaw 8
  have hlt := hO.lt
  obtain ⟨A, n, cap, b, off, e, hn, hc, hm, ha, hw, hs⟩ := hW
  simp only [RC.l] at f8
  rw [e] at f8
  simp only [List.getElem?_cons_succ, List.getElem?_cons_zero] at f8
  have hn2 : n = l.length + 1 := by simpa using hn
  obtain ⟨rfl, hb1, hb2⟩ := ha (by omega)
  have c0 := hw 0 x rfl
  rw [Nat.add_zero] at c0
  have HN := Lib.hid hn2
  have e0 : ((n : Int) == 0) = false := by simp; omega
  have hn1 : 1 ≤ n := by omega
  have HW : Hid (∀ i y, l[i]? = some y → w.cell? ⟨b, off + 1 + i, none⟩ = some (str y)) := Lib.hid fun i y hy => by
    have := hw (i + 1) y (by simpa using hy)
    rw [← this]; congr 2; omega
  have HS : Hid (∀ x ∈ l, x.length ≤ 4194304) := Lib.hid fun y hy => hs y (by simp [hy])
  have HO := Lib.hid hO
  clear hw hs ha hn hn2 hO e
  have hfin : ∀ v', Ws lo hi w v' l → Took lo hi rb rc l w (w.setCell ⟨rb, 8, none⟩ v') := fun v' hv => ⟨v', HO.out.store 8 v', hv.move fun k _ hk => Below.heap_setCell w _ v' k (show k ≠ rb by omega), ⟨rfl, rfl, rfl, by simp [World.setCell], fun k hk hne => Below.heap_setCell w _ v' k (fun e => hne (by rw [show k = rb from e]))⟩⟩
  have HF := Lib.hid hfin
  clear hfin
  by_cases h1 : cap = 1
  · subst h1
    obtain rfl : n = 1 := by omega
    go_enter Tryz.func137, Tryz.ntmps137
    go_wp2
    go_ret
    refine ⟨rfl, HF.out _ ⟨_, 0, _, 0, 0, rfl, by have := HN.out; omega, by omega, by omega, by omega, fun i x hx => ?_, HS.out⟩⟩
    have := (List.getElem?_eq_some_iff.1 hx).1
    have := HN.out
    omega
  · have h2 : 1 < cap := by omega
    clear h1
    go_enter Tryz.func137, Tryz.ntmps137
    go_wp2
    go_ret
    exact ⟨rfl, HF.out _ ⟨_, _, _, b, off + 1, rfl, by have := HN.out; omega, by omega, by omega, fun _ => ⟨rfl, hb1, hb2⟩, HW.out, HS.out⟩⟩
end Go.Proofs.YtkmndgjabkjafaaGreatDoor.Rd5

namespace Go.Proofs.YtkmndgjabkjafaaGreatDoor.Rd5
open Go.RowKit Api Hold Mem Syn WordM

variable {w w' w1 w2 : World} {lo hi rb base : Nat} {rc : RC} {v : Value} {l ws : List Wd} {row : Option Nat}
theorem gr_refl (w : World) (row : Option Nat) : w.grownBy w row := ⟨rfl, rfl, rfl, Nat.le_refl _, fun _ _ _ => rfl⟩
theorem gr_alloc (h : w.grownBy w1 row) (o : Obj) : w.grownBy (w1.alloc o) row := h.trans (World.grownBy_alloc w1 o row)
theorem gr_below {B : Nat} (h : w.grownBy w1 row) (hB : w.heap.size ≤ B) (hb : Below B w1 w2) : w.grownBy w2 row :=
  ⟨hb.os.trans h.os, hb.tape.trans h.tape, hb.output.trans h.output, Nat.le_trans h.size hb.size, fun k hk hne => (hb.block k (by omega)).trans (h.block k hk hne)⟩
theorem gr_set (h : w.grownBy w1 row) {a : Addr} (ha : w.heap.size ≤ a.block) (u : Value) : w.grownBy (w1.setCell a u) row :=
  ⟨h.os, h.tape, h.output, by have := h.size; simpa [World.setCell] using this, fun k hk hne => (Below.heap_setCell w1 a u k (by omega)).trans (h.block k hk hne)⟩
theorem gr_set_row (h : w.grownBy w1 (some rb)) {a : Addr} (ha : a.block = rb) (u : Value) : w.grownBy (w1.setCell a u) (some rb) :=
  ⟨h.os, h.tape, h.output, by have := h.size; simpa [World.setCell] using this, fun k hk hne => (Below.heap_setCell w1 a u k (by subst ha; intro e; exact hne (by rw [e]))).trans (h.block k hk hne)⟩
theorem gr_drew (h : w.grownBy w1 row) : w.grownBy w1.drew row := ⟨h.os, h.tape, h.output, h.size, h.block⟩
theorem gr_any (h : w.grownBy w1 none) : w.grownBy w1 row := ⟨h.os, h.tape, h.output, h.size, fun k hk _ => h.block k hk (by simp)⟩
theorem own_set (h : OwnR w rb rc) {a : Addr} (ha : a.block ≠ rb) (u : Value) : OwnR (w.setCell a u) rb rc := (Below.heap_setCell w a u rb (Ne.symm ha)).trans h
theorem own_below {B : Nat} (h : OwnR w rb rc) (hb : Below B w w') (hB : rb < B) : OwnR w' rb rc := (hb.block rb hB).trans h
theorem Ws.same (h : Ws lo hi w v l) (hk : ∀ k, k < hi → w'.heap[k]? = w.heap[k]?) : Ws lo hi w' v l := h.move fun k _ => hk k

theorem wname_at (x : Wd) (b : Bool) (h : nameV x = b) (w : World) : Calls Tryz.prog 63 #[str x] w fun e w' => e = .returned (.bool b) ∧ w = w' := by
  rw [← h]; exact name_any ⟨x.toArray⟩ w
theorem wget_to (x : Wd) (a : Arg) (b : Bool) (h : argV x = (a, b)) (hx : x.length ≤ 4194304) (w : World) :
    Calls Tryz.prog 164 #[str x] w fun e w' => e = .returned (.tuple #[.agg #[i64 a.kind, str a.s, i64 a.n], .bool b]) ∧ Below w.heap.size w w' := by
  have hs : (⟨x.toArray⟩ : ByteArray).size = x.length := by show x.toArray.size = _; simp
  have q := wget_any ⟨x.toArray⟩ (by rw [hs]; unfold maxLen; omega) w
  have h1 := congrArg Prod.fst h
  have h2 := congrArg Prod.snd h
  unfold argV at h1 h2
  simp only at h1 h2
  rw [h2] at q
  subst h1
  unfold val at q
  simp only
  rw [show (str (wget ⟨x.toArray⟩).1.2.1.data.toList : Value) = .string (wget ⟨x.toArray⟩).1.2.1 from by show Value.string _ = _; rw [bytes_of]]
  exact q
theorem nget_to (x : Wd) (n : Int) (b : Bool) (h : NumM.getV x = (n, b)) (hx : x.length ≤ 4194304) (w : World) :
    Calls Tryz.prog 165 #[str x] w fun e w' => e = .returned (.tuple #[.int .i64 n, .bool b]) ∧ Below w.heap.size w w' := by
  have hs : (⟨x.toArray⟩ : ByteArray).size = x.length := by show x.toArray.size = _; simp
  have q := get_any ⟨x.toArray⟩ w (by rw [hs]; unfold maxLen; omega)
  have e : NumM.getV (⟨x.toArray⟩ : ByteArray).data.toList = (n, b) := h
  rw [e] at q
  exact q

def takeName : List Wd → Option (Wd × List Wd) | x :: l => if nameV x = true then some (x, l) else none | [] => none
def takeKind : List Wd → Option (Wd × List Wd) | x :: l => if kindV x = true then some (x, l) else none | [] => none
def takeNum : List Wd → Option (Int × List Wd) | x :: l => if (NumM.getV x).2 = true then some ((NumM.getV x).1, l) else none | [] => none
def takeCount (m : Int) (ws : List Wd) : Option (Int × List Wd) := match takeNum ws with | some (n, l) => if n < 0 ∨ m < n then none else some (n, l) | none => none
def takeVal : List Wd → Option (Arg × List Wd) | x :: l => if (argV x).2 = true then some ((argV x).1, l) else none | [] => none
def takeArg (ws : List Wd) : Option (Arg × List Wd) := match takeVal ws with | some (a, l) => if a.kind = 5 then none else some (a, l) | none => none
def takeVar (ws : List Wd) : Option (Var × List Wd) := match takeName ws with | some (n, l) => (match takeKind l with | some (k, l) => some (⟨n, k⟩, l) | none => none) | none => none
def takeIn (ws : List Wd) : Option (Bind × List Wd) := match takeName ws with | some (n, l) => (match takeArg l with | some (a, l) => some (⟨n, a⟩, l) | none => none) | none => none

abbrev ptr (rb : Nat) : Value := .pointer (some ⟨rb, 0, none⟩)
set_option maxHeartbeats 1000000 in
theorem name_take (hO : OwnR w rb rc) (hW : Ws lo hi w rc.rest ws) (hh : hi ≤ rb) : Calls Tryz.prog 122 #[ptr rb] w (TakeR str (takeName ws) lo hi rb rc w) := by
  cases ws with
  | nil =>
    have Q := Lib.hid (next_none hO hW)
    clear hO hW
    go_enter Tryz.func122, Tryz.ntmps122
    go_wp2_with (go_at_call 137; (with_reducible refine (Q.out).mono ?_); rintro e w1 ⟨rfl, rfl⟩)
    exact ⟨rfl, rfl, gr_refl _ _⟩
  | cons x l =>
    have Q := Lib.hid (next_some hO hW hh)
    clear hO hW
    rcases Bool.eq_false_or_eq_true (nameV x) with hb | hb
    · have e : takeName (x :: l) = some (x, l) := by simp [takeName, hb]
      rw [e]
      have Q2 := Lib.hid (wname_at x true hb)
      clear e hb
      go_enter Tryz.func122, Tryz.ntmps122
      go_wp2_with (first | (go_at_call 137; (with_reducible refine (Q.out).mono ?_); rintro e w1 ⟨rfl, hT⟩; have HT := Lib.hid hT; clear hT) | (go_at_call 63; (with_reducible refine (Q2.out _).mono ?_); rintro e w2 ⟨rfl, rfl⟩))
      go_ret
      exact ⟨rfl, HT.out⟩
    · have e : takeName (x :: l) = none := by simp [takeName, hb]
      rw [e]
      have Q2 := Lib.hid (wname_at x false hb)
      clear e hb
      go_enter Tryz.func122, Tryz.ntmps122
      go_wp2_with (first | (go_at_call 137; (with_reducible refine (Q.out).mono ?_); rintro e w1 ⟨rfl, v1, _, _, hg⟩; have HG := Lib.hid hg; clear hg) | (go_at_call 63; (with_reducible refine (Q2.out _).mono ?_); rintro e w2 ⟨rfl, rfl⟩) | (go_at_call 90; (with_reducible refine (refuse_any _ _).mono ?_); rintro e w2 ⟨rfl, rfl⟩))
      exact ⟨rfl, rfl, HG.out⟩

theorem eq_lit5 {s : ByteArray} {x c : Wd} (hs : s.data.toList = x) : (s.toList == c) = (x == c) := by rw [ByteArray.toList_eq, hs]
set_option maxHeartbeats 2000000 in
theorem kind_take (hO : OwnR w rb rc) (hW : Ws lo hi w rc.rest ws) (hh : hi ≤ rb) : Calls Tryz.prog 126 #[ptr rb] w (TakeR str (takeKind ws) lo hi rb rc w) := by
  cases ws with
  | nil =>
    have Q := Lib.hid (next_none hO hW)
    clear hO hW
    go_enter Tryz.func126, Tryz.ntmps126
    go_wp2_with (go_at_call 137; (with_reducible refine (Q.out).mono ?_); rintro e w1 ⟨rfl, rfl⟩)
    exact ⟨rfl, rfl, gr_refl _ _⟩
  | cons x l =>
    have Q0 := next_some hO hW hh
    clear hO hW
    obtain ⟨s, hs⟩ : ∃ s : ByteArray, s = ⟨x.toArray⟩ := ⟨_, rfl⟩
    have hsd : s.data.toList = x := by rw [hs]
    have e1 := eq_lit5 (c := [105, 110, 116]) hsd
    have e2 := eq_lit5 (c := [102, 108, 111, 97, 116]) hsd
    obtain ⟨t, ht⟩ : ∃ t, nameV x = t := ⟨_, rfl⟩
    have hk : kindV x = ((s.toList == [105, 110, 116]) || (s.toList == [102, 108, 111, 97, 116]) || t) := by rw [e1, e2, ← ht]; rfl
    have Q2 := Lib.hid (wname_at x t ht)
    have hx : str x = .string s := by rw [hs]
    rw [hx] at Q0
    have Q2 : Hid (∀ w : World, Calls Tryz.prog 63 #[.string s] w fun e w' => e = .returned (.bool t) ∧ w = w') := by rw [← hx]; exact Q2
    have Q := Lib.hid Q0
    have HX := Lib.hid hx
    have n1 : (s.toList != [105, 110, 116]) = !(s.toList == [105, 110, 116]) := rfl
    have n2 : (s.toList != [102, 108, 111, 97, 116]) = !(s.toList == [102, 108, 111, 97, 116]) := rfl
    clear hs hsd e1 e2 Q0 hx ht
    by_cases hg : kindV x = true
    · have e : takeKind (x :: l) = some (x, l) := by simp [takeKind, hg]
      rw [e]
      rw [hk] at hg
      clear e hk
      rcases Bool.eq_false_or_eq_true (s.toList == [105, 110, 116]) with a | a <;> rcases Bool.eq_false_or_eq_true (s.toList == [102, 108, 111, 97, 116]) with b | b
      all_goals
        rw [a, b] at hg
        rw [a] at n1
        rw [b] at n2
        simp only [Bool.not_true, Bool.not_false] at n1 n2
        cases t
        all_goals first
          | (exfalso; simp at hg; done)
          | (clear hg
             go_enter Tryz.func126, Tryz.ntmps126
             go_wp2_with (first | (go_at_call 137; (with_reducible refine (Q.out).mono ?_); rintro e w1 ⟨rfl, hT⟩; have HT := Lib.hid hT; clear hT) | (go_at_call 63; (with_reducible refine (Q2.out _).mono ?_); rintro e w2 ⟨rfl, rfl⟩))
             go_ret
             exact ⟨by rw [HX.out]; rfl, HT.out⟩)
    · have e : takeKind (x :: l) = none := by simp [takeKind, hg]
      rw [e]
      rw [hk] at hg
      clear e hk
      simp only [Bool.or_eq_true, not_or, Bool.not_eq_true] at hg
      obtain ⟨⟨a, b⟩, rfl⟩ := hg
      rw [a] at n1
      rw [b] at n2
      simp only [Bool.not_false] at n1 n2
      go_enter Tryz.func126, Tryz.ntmps126
      go_wp2_with (first | (go_at_call 137; (with_reducible refine (Q.out).mono ?_); rintro e w1 ⟨rfl, v1, _, _, hg⟩; have HG := Lib.hid hg; clear hg) | (go_at_call 63; (with_reducible refine (Q2.out _).mono ?_); rintro e w2 ⟨rfl, rfl⟩) | (go_at_call 90; (with_reducible refine (refuse_any _ _).mono ?_); rintro e w2 ⟨rfl, rfl⟩))
      exact ⟨rfl, rfl, HG.out⟩

set_option maxHeartbeats 1000000 in
theorem number_take (hO : OwnR w rb rc) (hW : Ws lo hi w rc.rest ws) (hh : hi ≤ rb) : Calls Tryz.prog 136 #[ptr rb] w (TakeR i64 (takeNum ws) lo hi rb rc w) := by
  cases ws with
  | nil =>
    have Q := Lib.hid (next_none hO hW)
    clear hO hW
    go_enter Tryz.func136, Tryz.ntmps136
    go_wp2_with (go_at_call 137; (with_reducible refine (Q.out).mono ?_); rintro e w1 ⟨rfl, rfl⟩)
    exact ⟨rfl, rfl, gr_refl _ _⟩
  | cons x l =>
    have Q := Lib.hid (next_some hO hW hh)
    obtain ⟨⟨n, b⟩, hb⟩ : ∃ r, NumM.getV x = r := ⟨_, rfl⟩
    have hx : x.length ≤ 4194304 := by
      obtain ⟨_, _, _, _, _, _, _, _, _, _, _, hs⟩ := hW
      exact hs x (by simp)
    have Q2 := Lib.hid (nget_to x n b hb hx)
    have HR := Lib.hid hO.lt
    have HH := Lib.hid hh
    clear hO hW hx hh
    cases b with
    | true =>
      have e : takeNum (x :: l) = some (n, l) := by simp [takeNum, hb]
      rw [e]
      clear e hb
      go_enter Tryz.func136, Tryz.ntmps136
      go_wp2_with (first | (go_at_call 137; (with_reducible refine (Q.out).mono ?_); rintro e w1 ⟨rfl, v1, ho, hw, hg⟩; have HO := Lib.hid ho; have HW := Lib.hid hw; have HG := Lib.hid hg; clear ho hw hg) | (go_at_call 165; (with_reducible refine (Q2.out _).mono ?_); rintro e w2 ⟨rfl, hb2⟩; have HB := Lib.hid hb2; clear hb2))
      go_ret
      have hs := HG.out.size
      have hr := HR.out
      have hh := HH.out
      exact ⟨rfl, v1, own_below HO.out HB.out (by omega), HW.out.same fun k hk => HB.out.block k (by omega), gr_below HG.out hs HB.out⟩
    | false =>
      have e : takeNum (x :: l) = none := by simp [takeNum, hb]
      rw [e]
      clear e hb
      go_enter Tryz.func136, Tryz.ntmps136
      go_wp2_with (first | (go_at_call 137; (with_reducible refine (Q.out).mono ?_); rintro e w1 ⟨rfl, v1, ho, hw, hg⟩; have HO := Lib.hid ho; have HW := Lib.hid hw; have HG := Lib.hid hg; clear ho hw hg) | (go_at_call 165; (with_reducible refine (Q2.out _).mono ?_); rintro e w2 ⟨rfl, hb2⟩; have HB := Lib.hid hb2; clear hb2) | (go_at_call 90; (with_reducible refine (refuse_any _ _).mono ?_); rintro e w3 ⟨rfl, rfl⟩))
      have hs := HG.out.size
      exact ⟨rfl, rfl, gr_below HG.out hs HB.out⟩

set_option maxHeartbeats 1000000 in
theorem count_take (m : Int) (hO : OwnR w rb rc) (hW : Ws lo hi w rc.rest ws) (hh : hi ≤ rb) : Calls Tryz.prog 125 #[ptr rb, i64 m] w (TakeR i64 (takeCount m ws) lo hi rb rc w) := by
  have Q0 := number_take hO hW hh
  unfold takeCount
  clear hO hW
  cases hn : takeNum ws with
  | none =>
    rw [hn] at Q0
    have Q := Lib.hid Q0
    clear Q0 hn
    go_enter Tryz.func125, Tryz.ntmps125
    go_wp2_with (go_at_call 136; (with_reducible refine (Q.out).mono ?_); rintro e w1 ⟨rfl, hg⟩; have HG := Lib.hid hg; clear hg)
    exact ⟨rfl, rfl, HG.out⟩
  | some y =>
    obtain ⟨n, l⟩ := y
    rw [hn] at Q0
    have Q := Lib.hid Q0
    clear Q0 hn
    simp only
    by_cases h : n < 0 ∨ m < n
    · rw [if_pos h]
      by_cases h0 : n < 0
      · have e0 : decide (n < 0) = true := decide_eq_true h0
        clear h
        go_enter Tryz.func125, Tryz.ntmps125
        go_wp2_with (first | (go_at_call 136; (with_reducible refine (Q.out).mono ?_); rintro e w1 ⟨rfl, v1, ho, hw, hg⟩; have HG := Lib.hid hg; clear ho hw hg) | (go_at_call 90; (with_reducible refine (refuse_any _ _).mono ?_); rintro e w3 ⟨rfl, rfl⟩))
        exact ⟨rfl, rfl, HG.out⟩
      · have h1 : m < n := by omega
        have e0 : decide (n < 0) = false := decide_eq_false h0
        have e1 : decide (m < n) = true := decide_eq_true h1
        clear h
        go_enter Tryz.func125, Tryz.ntmps125
        go_wp2_with (first | (go_at_call 136; (with_reducible refine (Q.out).mono ?_); rintro e w1 ⟨rfl, v1, ho, hw, hg⟩; have HG := Lib.hid hg; clear ho hw hg) | (go_at_call 90; (with_reducible refine (refuse_any _ _).mono ?_); rintro e w3 ⟨rfl, rfl⟩))
        exact ⟨rfl, rfl, HG.out⟩
    · rw [if_neg h]
      have e0 : decide (n < 0) = false := decide_eq_false (by omega)
      have e1 : decide (m < n) = false := decide_eq_false (by omega)
      clear h
      go_enter Tryz.func125, Tryz.ntmps125
      go_wp2_with (first | (go_at_call 136; (with_reducible refine (Q.out).mono ?_); rintro e w1 ⟨rfl, hT⟩; have HT := Lib.hid hT; clear hT) | (go_at_call 90; (with_reducible refine (refuse_any _ _).mono ?_); rintro e w3 ⟨rfl, rfl⟩))
      go_ret
      exact ⟨rfl, HT.out⟩

theorem alloc_own (h : OwnR w rb rc) (o : Obj) : OwnR (w.alloc o) rb rc := Own.alloc h o
theorem alloc_ws (h : Ws lo hi w v l) (hh : hi ≤ w.heap.size) (o : Obj) : Ws lo hi (w.alloc o) v l := h.same fun k hk => Below.heap_alloc w o k (by omega)
abbrev agA (a : Arg) : Value := .agg #[i64 a.kind, str a.s, i64 a.n]
abbrev zA : Obj := .cells #[i64 0, str [], i64 0] 42
theorem results_cell {fn : Func} {p : Tmp} {ty : TypeId} (h : fn.results = #[.cell p ty]) (tmps : Array Value) (P : Program) (w : World) :
    (results fn tmps).run P w = ((asAddr (tmps.getD p undef)).run P w).andThen fun a w₁ => (loadVar ty a).run P w₁ := by
  simp only [results, h]
  simp [Sem.run_bind, Result.andThen]
/-- three stores into the call's own result. -/
theorem three_end {g : Nat} {v0 v1 v2 u : Value} (hr : rb < w.heap.size) (hh : hi ≤ rb) (hO : OwnR w1 rb rc) (hW : Ws lo hi w1 u l) (hG : w.grownBy w1 (some rb)) (hb : Below w1.heap.size w1 w2) (hg : w.heap.size ≤ g) :
    OwnR (((w2.setCell ⟨g, 0, none⟩ v0).setCell ⟨g, 1, none⟩ v1).setCell ⟨g, 2, none⟩ v2) rb rc ∧ Ws lo hi (((w2.setCell ⟨g, 0, none⟩ v0).setCell ⟨g, 1, none⟩ v1).setCell ⟨g, 2, none⟩ v2) u l ∧ w.grownBy (((w2.setCell ⟨g, 0, none⟩ v0).setCell ⟨g, 1, none⟩ v1).setCell ⟨g, 2, none⟩ v2) (some rb) := by
  have hs := hG.size
  refine ⟨own_set (own_set (own_set (own_below hO hb (by omega)) (show g ≠ rb by omega) _) (show g ≠ rb by omega) _) (show g ≠ rb by omega) _, hW.same fun k hk => ?_, gr_set (gr_set (gr_set (gr_below hG hs hb) hg _) hg _) hg _⟩
  rw [Below.heap_setCell _ _ _ _ (show k ≠ g by omega), Below.heap_setCell _ _ _ _ (show k ≠ g by omega), Below.heap_setCell _ _ _ _ (show k ≠ g by omega)]
  exact hb.block k (by omega)
/-- a block laid ahead of a call that takes words, and of one that only makes memory. -/
theorem gr_made {o : Obj} (h : (w.alloc o).grownBy w1 row) : w.grownBy w1 row := (World.grownBy_alloc w o row).trans h
theorem made_size {o : Obj} (h : (w.alloc o).grownBy w1 row) : w.heap.size ≤ w1.heap.size := by have := h.size; simp at this; omega
theorem made_own {t : TypeId} {cs : List Value} (hr : rb < w.heap.size) (h : (w.alloc (.cells cs.toArray t)).grownBy w1 (some rb)) : Own w1 w.heap.size t cs :=
  (h.block w.heap.size (by simp) (by intro e; injection e with e; omega)).trans (Own.made w t cs)
theorem made_over {t : TypeId} {cs : List Value} (hr : rb < w.heap.size) (h : (w.alloc (.cells cs.toArray t)).grownBy w1 (some rb)) (hb : Below w1.heap.size w1 w2) : Own w2 w.heap.size t cs :=
  (made_own hr h).below hb (made_own hr h).lt
set_option maxHeartbeats 2000000 in
theorem value_take (hO : OwnR w rb rc) (hW : Ws lo hi w rc.rest ws) (hh : hi ≤ rb) : Calls Tryz.prog 132 #[ptr rb] w (TakeR agA (takeVal ws) lo hi rb rc w) := by
  have hr := hO.lt
  have hO1 := alloc_own hO zA
  have hW1 := alloc_ws hW (by omega) zA
  cases ws with
  | nil =>
    have Q := Lib.hid (next_none hO1 hW1)
    clear hO hW hO1 hW1
    go_enter Tryz.func132, Tryz.ntmps132
    go_wp2_with (go_at_call 137; (with_reducible refine (Q.out).mono ?_); rintro e w1 ⟨rfl, rfl⟩)
    exact ⟨rfl, rfl, gr_alloc (gr_refl _ _) _⟩
  | cons x l =>
    have Q := Lib.hid (next_some hO1 hW1 hh)
    obtain ⟨⟨⟨ak, as_, an⟩, b⟩, hb⟩ : ∃ r, argV x = r := ⟨_, rfl⟩
    have hx : x.length ≤ 4194304 := by
      obtain ⟨_, _, _, _, _, _, _, _, _, _, _, hs⟩ := hW
      exact hs x (by simp)
    have Q2 := Lib.hid (wget_to x _ b hb hx)
    have HR := Lib.hid hr
    have HH := Lib.hid hh
    clear hO hW hO1 hW1 hx hh hr
    cases b with
    | true =>
      have e : takeVal (x :: l) = some (⟨ak, as_, an⟩, l) := by simp [takeVal, hb]
      rw [e]
      clear e hb
      go_enter Tryz.func132, Tryz.ntmps132
      go_wp2_with (first | (go_at_call 137; (with_reducible refine (Q.out).mono ?_); rintro e w1 ⟨rfl, v1, ho, hw, hg⟩; have HO := Lib.hid ho; have HW := Lib.hid hw; have HG := Lib.hid hg; clear ho hw hg) | (go_at_call 164; (with_reducible refine (Q2.out _).mono ?_); rintro e w2 ⟨rfl, hb2⟩; have HB := Lib.hid hb2; clear hb2; have o3 := Own.alloc (made_over HR.out HG.out HB.out) (.cells #[i64 ak, str as_, i64 an] 42); obtain ⟨⟨c0, c1, c2⟩, ⟨z0, z1, z2⟩, hl3⟩ := own3 o3; clear o3))
      refine bodyPost_ret (v := .agg #[i64 ak, str as_, i64 an]) (by rw [results_cell rfl]; go_simp) rfl ⟨rfl, v1, ?_⟩
      exact three_end HR.out HH.out HO.out HW.out (gr_made HG.out) (HB.out.alloc (HB.out.size) _) (Nat.le_refl _)
    | false =>
      have e : takeVal (x :: l) = none := by simp [takeVal, hb]
      rw [e]
      clear e hb
      go_enter Tryz.func132, Tryz.ntmps132
      go_wp2_with (first | (go_at_call 137; (with_reducible refine (Q.out).mono ?_); rintro e w1 ⟨rfl, v1, ho, hw, hg⟩; have HO := Lib.hid ho; have HW := Lib.hid hw; have HG := Lib.hid hg; clear ho hw hg) | (go_at_call 164; (with_reducible refine (Q2.out _).mono ?_); rintro e w2 ⟨rfl, hb2⟩; have HB := Lib.hid hb2; clear hb2) | (go_at_call 90; (with_reducible refine (refuse_any _ _).mono ?_); rintro e w3 ⟨rfl, rfl⟩))
      exact ⟨rfl, rfl, gr_alloc (gr_below (gr_made HG.out) (made_size HG.out) HB.out) _⟩

set_option maxHeartbeats 2000000 in
theorem argument_take (hO : OwnR w rb rc) (hW : Ws lo hi w rc.rest ws) (hh : hi ≤ rb) : Calls Tryz.prog 135 #[ptr rb] w (TakeR agA (takeArg ws) lo hi rb rc w) := by
  have hr := hO.lt
  have hO1 := alloc_own hO zA
  have hW1 := alloc_ws hW (by omega) zA
  have Q0 := value_take hO1 hW1 hh
  have HR := Lib.hid hr
  have HH := Lib.hid hh
  unfold takeArg
  clear hO hW hO1 hW1 hr hh
  cases hn : takeVal ws with
  | none =>
    rw [hn] at Q0
    have Q := Lib.hid Q0
    clear Q0 hn
    go_enter Tryz.func135, Tryz.ntmps135
    go_wp2_with (go_at_call 132; (with_reducible refine (Q.out).mono ?_); rintro e w1 ⟨rfl, hg⟩; have HG := Lib.hid hg; clear hg)
    exact ⟨rfl, rfl, gr_made HG.out⟩
  | some y =>
    obtain ⟨⟨ak, as_, an⟩, l⟩ := y
    rw [hn] at Q0
    have Q := Lib.hid Q0
    clear Q0 hn
    simp only
    rcases Bool.eq_false_or_eq_true (ak == 5) with h5 | h5
    · rw [if_pos (by simpa using h5)]
      go_enter Tryz.func135, Tryz.ntmps135
      go_wp2_with (first | (go_at_call 132; (with_reducible refine (Q.out).mono ?_); rintro e w1 ⟨rfl, v1, ho, hw, hg⟩; have HG := Lib.hid hg; clear ho hw hg) | (go_at_call 90; (with_reducible refine (refuse_any _ _).mono ?_); rintro e w3 ⟨rfl, rfl⟩))
      exact ⟨rfl, rfl, gr_alloc (gr_made HG.out) _⟩
    · rw [if_neg (by simpa using h5)]
      go_enter Tryz.func135, Tryz.ntmps135
      go_wp2_with (first | (go_at_call 132; (with_reducible refine (Q.out).mono ?_); rintro e w1 ⟨rfl, v1, ho, hw, hg⟩; have HO := Lib.hid ho; have HW := Lib.hid hw; have HG := Lib.hid hg; clear ho hw hg; have o3 := Own.alloc (made_own HR.out HG.out) (.cells #[i64 ak, str as_, i64 an] 42); obtain ⟨⟨c0, c1, c2⟩, ⟨z0, z1, z2⟩, hl3⟩ := own3 o3; clear o3) | (go_at_call 90; (with_reducible refine (refuse_any _ _).mono ?_); rintro e w3 ⟨rfl, rfl⟩))
      refine bodyPost_ret (v := .agg #[i64 ak, str as_, i64 an]) (by rw [results_cell rfl]; go_simp) rfl ⟨rfl, v1, ?_⟩
      exact three_end HR.out HH.out HO.out HW.out (gr_made HG.out) ((Below.refl _ _).alloc (Nat.le_refl _) _) (Nat.le_refl _)

theorem own2 {g : Nat} {t : TypeId} {u0 u1 : Value} (o : Own w g t [u0, u1]) : (w.cell? ⟨g, 0, none⟩ = some u0 ∧ w.cell? ⟨g, 1, none⟩ = some u1) ∧ (w.frozen? ⟨g, 0, none⟩ = false ∧ w.frozen? ⟨g, 1, none⟩ = false) ∧ g < w.heap.size :=
  ⟨⟨o.cell 0, o.cell 1⟩, ⟨o.thaw 0, o.thaw 1⟩, o.lt⟩
theorem own4 {g : Nat} {t : TypeId} {u0 u1 u2 u3 : Value} (o : Own w g t [u0, u1, u2, u3]) : (w.cell? ⟨g, 0, none⟩ = some u0 ∧ w.cell? ⟨g, 1, none⟩ = some u1 ∧ w.cell? ⟨g, 2, none⟩ = some u2 ∧ w.cell? ⟨g, 3, none⟩ = some u3) ∧ (w.frozen? ⟨g, 0, none⟩ = false ∧ w.frozen? ⟨g, 1, none⟩ = false ∧ w.frozen? ⟨g, 2, none⟩ = false ∧ w.frozen? ⟨g, 3, none⟩ = false) ∧ g < w.heap.size :=
  ⟨⟨o.cell 0, o.cell 1, o.cell 2, o.cell 3⟩, ⟨o.thaw 0, o.thaw 1, o.thaw 2, o.thaw 3⟩, o.lt⟩
theorem own_twice {t : TypeId} {cs : List Value} (hr : rb < w.heap.size) (h : (w.alloc (.cells cs.toArray t)).grownBy w1 (some rb)) (h2 : w1.grownBy w2 (some rb)) : Own w2 w.heap.size t cs :=
  made_own hr (h.trans h2)
abbrev zV : Obj := .cells #[str [], str []] 93
abbrev zI : Obj := .cells #[str [], i64 0, str [], i64 0] 133
abbrev agV (x : Var) : Value := .agg #[str x.name, str x.type]
abbrev agB (x : Bind) : Value := .agg #[str x.name, i64 x.a.kind, str x.a.s, i64 x.a.n]
theorem two_end {g : Nat} {v0 v1 u : Value} (hr : rb < w.heap.size) (hh : hi ≤ rb) (hO : OwnR w1 rb rc) (hW : Ws lo hi w1 u l) (hG : w.grownBy w1 (some rb)) (hg : w.heap.size ≤ g) :
    OwnR ((w1.setCell ⟨g, 0, none⟩ v0).setCell ⟨g, 1, none⟩ v1) rb rc ∧ Ws lo hi ((w1.setCell ⟨g, 0, none⟩ v0).setCell ⟨g, 1, none⟩ v1) u l ∧ w.grownBy ((w1.setCell ⟨g, 0, none⟩ v0).setCell ⟨g, 1, none⟩ v1) (some rb) := by
  refine ⟨own_set (own_set hO (show g ≠ rb by omega) _) (show g ≠ rb by omega) _, hW.same fun k hk => ?_, gr_set (gr_set hG hg _) hg _⟩
  rw [Below.heap_setCell _ _ _ _ (show k ≠ g by omega), Below.heap_setCell _ _ _ _ (show k ≠ g by omega)]
theorem four_end {g : Nat} {v0 v1 v2 v3 u : Value} (hr : rb < w.heap.size) (hh : hi ≤ rb) (hO : OwnR w1 rb rc) (hW : Ws lo hi w1 u l) (hG : w.grownBy w1 (some rb)) (hg : w.heap.size ≤ g) :
    OwnR ((((w1.setCell ⟨g, 0, none⟩ v0).setCell ⟨g, 1, none⟩ v1).setCell ⟨g, 2, none⟩ v2).setCell ⟨g, 3, none⟩ v3) rb rc ∧ Ws lo hi ((((w1.setCell ⟨g, 0, none⟩ v0).setCell ⟨g, 1, none⟩ v1).setCell ⟨g, 2, none⟩ v2).setCell ⟨g, 3, none⟩ v3) u l ∧ w.grownBy ((((w1.setCell ⟨g, 0, none⟩ v0).setCell ⟨g, 1, none⟩ v1).setCell ⟨g, 2, none⟩ v2).setCell ⟨g, 3, none⟩ v3) (some rb) := by
  obtain ⟨a, b, c⟩ := two_end (v0 := v0) (v1 := v1) hr hh hO hW hG hg
  refine ⟨own_set (own_set a (show g ≠ rb by omega) _) (show g ≠ rb by omega) _, b.same fun k hk => ?_, gr_set (gr_set c hg _) hg _⟩
  rw [Below.heap_setCell _ _ _ _ (show k ≠ g by omega), Below.heap_setCell _ _ _ _ (show k ≠ g by omega)]
set_option maxHeartbeats 2000000 in
theorem declared_take (hO : OwnR w rb rc) (hW : Ws lo hi w rc.rest ws) (hh : hi ≤ rb) : Calls Tryz.prog 124 #[ptr rb] w (TakeR agV (takeVar ws) lo hi rb rc w) := by
  have hr := hO.lt
  have hO1 := alloc_own hO zV
  have hW1 := alloc_ws hW (by omega) zV
  have Q0 := name_take hO1 hW1 hh
  have HR := Lib.hid hr
  have HH := Lib.hid hh
  unfold takeVar
  clear hO hW hO1 hW1 hr hh
  cases hn : takeName ws with
  | none =>
    rw [hn] at Q0
    have Q := Lib.hid Q0
    clear Q0 hn
    go_enter Tryz.func124, Tryz.ntmps124
    go_wp2_with (go_at_call 122; (with_reducible refine (Q.out).mono ?_); rintro e w1 ⟨rfl, hg⟩; have HG := Lib.hid hg; clear hg)
    exact ⟨rfl, rfl, gr_made HG.out⟩
  | some y =>
    obtain ⟨x, l⟩ := y
    rw [hn] at Q0
    have Q := Lib.hid Q0
    clear Q0 hn
    simp only
    cases hk : takeKind l with
    | none =>
      have HK := Lib.hid hk
      clear hk
      simp only
      go_enter Tryz.func124, Tryz.ntmps124
      go_wp2_with (first | (go_at_call 122; (with_reducible refine (Q.out).mono ?_); rintro e w1 ⟨rfl, v1, ho, hw, hg⟩; have q2 := kind_take ho hw HH.out; rw [HK.out] at q2; have Q2 := Lib.hid q2; have HG := Lib.hid hg; clear q2 ho hw hg) | (go_at_call 126; (with_reducible refine (Q2.out).mono ?_); rintro e w2 ⟨rfl, hg2⟩; have HG2 := Lib.hid hg2; clear hg2))
      exact ⟨rfl, rfl, gr_made (HG.out.trans HG2.out)⟩
    | some y =>
      obtain ⟨z, l⟩ := y
      have HK := Lib.hid hk
      clear hk
      simp only
      go_enter Tryz.func124, Tryz.ntmps124
      go_wp2_with (first | (go_at_call 122; (with_reducible refine (Q.out).mono ?_); rintro e w1 ⟨rfl, v1, ho, hw, hg⟩; have q2 := kind_take ho hw HH.out; rw [HK.out] at q2; have Q2 := Lib.hid q2; have HG := Lib.hid hg; clear q2 ho hw hg) | (go_at_call 126; (with_reducible refine (Q2.out).mono ?_); rintro e w2 ⟨rfl, v2, ho, hw, hg2⟩; have HO := Lib.hid ho; have HW := Lib.hid hw; have HG2 := Lib.hid hg2; clear ho hw hg2; obtain ⟨⟨c0, c1⟩, ⟨z0, z1⟩, hl3⟩ := own2 (own_twice HR.out HG.out HG2.out)))
      refine bodyPost_ret (v := .agg #[str x, str z]) (by rw [results_cell rfl]; go_simp) rfl ⟨rfl, v2, ?_⟩
      exact two_end HR.out HH.out HO.out HW.out (gr_made (HG.out.trans HG2.out)) (Nat.le_refl _)
set_option maxHeartbeats 2000000 in
theorem in_take (hO : OwnR w rb rc) (hW : Ws lo hi w rc.rest ws) (hh : hi ≤ rb) : Calls Tryz.prog 128 #[ptr rb] w (TakeR agB (takeIn ws) lo hi rb rc w) := by
  have hr := hO.lt
  have hO1 := alloc_own hO zI
  have hW1 := alloc_ws hW (by omega) zI
  have Q0 := name_take hO1 hW1 hh
  have HR := Lib.hid hr
  have HH := Lib.hid hh
  unfold takeIn
  clear hO hW hO1 hW1 hr hh
  cases hn : takeName ws with
  | none =>
    rw [hn] at Q0
    have Q := Lib.hid Q0
    clear Q0 hn
    go_enter Tryz.func128, Tryz.ntmps128
    go_wp2_with (go_at_call 122; (with_reducible refine (Q.out).mono ?_); rintro e w1 ⟨rfl, hg⟩; have HG := Lib.hid hg; clear hg)
    exact ⟨rfl, rfl, gr_made HG.out⟩
  | some y =>
    obtain ⟨x, l⟩ := y
    rw [hn] at Q0
    have Q := Lib.hid Q0
    clear Q0 hn
    simp only
    cases hk : takeArg l with
    | none =>
      have HK := Lib.hid hk
      clear hk
      simp only
      go_enter Tryz.func128, Tryz.ntmps128
      go_wp2_with (first | (go_at_call 122; (with_reducible refine (Q.out).mono ?_); rintro e w1 ⟨rfl, v1, ho, hw, hg⟩; have q2 := argument_take ho hw HH.out; rw [HK.out] at q2; have Q2 := Lib.hid q2; have HG := Lib.hid hg; clear q2 ho hw hg) | (go_at_call 135; (with_reducible refine (Q2.out).mono ?_); rintro e w2 ⟨rfl, hg2⟩; have HG2 := Lib.hid hg2; clear hg2))
      exact ⟨rfl, rfl, gr_made (HG.out.trans HG2.out)⟩
    | some y =>
      obtain ⟨⟨ak, as_, an⟩, l⟩ := y
      have HK := Lib.hid hk
      clear hk
      simp only
      go_enter Tryz.func128, Tryz.ntmps128
      go_wp2_with (first | (go_at_call 122; (with_reducible refine (Q.out).mono ?_); rintro e w1 ⟨rfl, v1, ho, hw, hg⟩; have q2 := argument_take ho hw HH.out; rw [HK.out] at q2; have Q2 := Lib.hid q2; have HG := Lib.hid hg; clear q2 ho hw hg) | (go_at_call 135; (with_reducible refine (Q2.out).mono ?_); rintro e w2 ⟨rfl, v2, ho, hw, hg2⟩; have HO := Lib.hid ho; have HW := Lib.hid hw; have HG2 := Lib.hid hg2; clear ho hw hg2; obtain ⟨⟨c0, c1, c2, c3⟩, ⟨z0, z1, z2, z3⟩, hl3⟩ := own4 (own_twice HR.out HG.out HG2.out)))
      refine bodyPost_ret (v := .agg #[str x, i64 ak, str as_, i64 an]) (by rw [results_cell rfl]; go_simp) rfl ⟨rfl, v2, ?_⟩
      exact four_end HR.out HH.out HO.out HW.out (gr_made (HG.out.trans HG2.out)) (Nat.le_refl _)
end Go.Proofs.YtkmndgjabkjafaaGreatDoor.Rd5

namespace Go.Proofs.YtkmndgjabkjafaaGreatDoor.Rd5
open Go.RowKit Api Hold Mem Syn WordM Tree

variable {w w' w1 w2 : World} {lo hi rb base N : Nat} {rc : RC} {v : Value} {l ws : List Wd} {row : Option Nat} {a : Tree.Act} {D : List Rec} {p : Prog}

/-- May a line stand here? -/
def stB (pl at_ : Int) : Bool := !(bits BinOp.and IntKind.i64 pl at_ == 0)
theorem stands_any (at_ : Int) (hO : OwnR w rb rc) : Calls Tryz.prog 43 #[ptr rb, i64 at_] w fun e w' => e = (if stB rc.place at_ = true then .returned (.tuple #[]) else .panicked (chain 3)) ∧ w = w' := by
  have f5 := hO.cell 5
  simp only [RC.l, List.getElem?_cons_succ, List.getElem?_cons_zero] at f5
  clear hO
  rcases Bool.eq_false_or_eq_true (bits BinOp.and IntKind.i64 rc.place at_ == 0) with h | h
  · have e : stB rc.place at_ = false := by unfold stB; rw [h]; rfl
    rw [e]
    simp only [Bool.false_eq_true, if_false]
    clear e
    go_enter Tryz.func43, Tryz.ntmps43
    go_wp2_with (go_at_call 90; (with_reducible refine (refuse_any _ _).mono ?_); rintro e w3 ⟨rfl, rfl⟩)
    exact ⟨rfl, rfl, rfl⟩
  · have e : stB rc.place at_ = true := by unfold stB; rw [h]; rfl
    rw [e]
    simp only [if_true]
    clear e
    go_enter Tryz.func43, Tryz.ntmps43
    go_wp2
    go_end0
    exact ⟨rfl, rfl⟩
theorem stands_yes {at_ : Int} (hO : OwnR w rb rc) (h : stB rc.place at_ = true) : Calls Tryz.prog 43 #[ptr rb, i64 at_] w fun e w' => e = .returned (.tuple #[]) ∧ w = w' := by
  have := stands_any at_ hO
  rw [if_pos h] at this
  exact this
theorem stands_no {at_ : Int} (hO : OwnR w rb rc) (h : stB rc.place at_ = false) : Calls Tryz.prog 43 #[ptr rb, i64 at_] w fun e w' => e = .panicked (chain 3) ∧ w = w' := by
  have := stands_any at_ hO
  rw [if_neg (by rw [h]; simp)] at this
  exact this
/-- What limit leaves: over, if there are more. -/
def LimR (rb : Nat) (rc : RC) (n m : Int) (w : World) (e : Ending) (w' : World) : Prop := e = .returned (.tuple #[]) ∧ OwnR w' rb { rc with over := rc.over || decide (m < n) } ∧ w.grownBy w' (some rb) ∧ w'.heap.size = w.heap.size
theorem limit_any (n m : Int) (hO : OwnR w rb rc) : Calls Tryz.prog 123 #[ptr rb, i64 n, i64 m] w (LimR rb rc n m w) := by
  have f9 := hO.cell 9
  have z9 := hO.thaw 9
  have hlt := hO.lt
  simp only [RC.l, List.getElem?_cons_succ, List.getElem?_cons_zero] at f9
  have HO := Lib.hid hO
  clear hO
  by_cases h : m < n
  · have e0 : decide (m < n) = true := decide_eq_true h
    have HE := Lib.hid e0
    clear h
    go_enter Tryz.func123, Tryz.ntmps123
    go_wp2
    go_end0
    refine ⟨rfl, ?_, gr_set_row (gr_refl _ _) rfl _, by simp [World.setCell]⟩
    rw [HE.out, Bool.or_true]
    exact HO.out.store 9 (.bool true)
  · have e0 : decide (m < n) = false := decide_eq_false h
    have HE := Lib.hid e0
    clear h
    go_enter Tryz.func123, Tryz.ntmps123
    go_wp2
    go_end0
    refine ⟨rfl, ?_, gr_refl _ _, rfl⟩
    rw [HE.out, Bool.or_false]
    exact HO.out

/-- Below base all is as it was, but for the reader. -/
structure Beside (base rb : Nat) (w w' : World) : Prop where
  os : w'.os = w.os
  tape : w'.tape = w.tape
  output : w'.output = w.output
  size : w.heap.size ≤ w'.heap.size
  block : ∀ k, k < base → k ≠ rb → w'.heap[k]? = w.heap[k]?
theorem Beside.refl (base rb : Nat) (w : World) : Beside base rb w w := ⟨rfl, rfl, rfl, Nat.le_refl _, fun _ _ _ => rfl⟩
theorem Beside.trans (h : Beside base rb w w1) (h2 : Beside base rb w1 w2) : Beside base rb w w2 := ⟨h2.os.trans h.os, h2.tape.trans h.tape, h2.output.trans h.output, Nat.le_trans h.size h2.size, fun k hk hn => (h2.block k hk hn).trans (h.block k hk hn)⟩
theorem Beside.of_grown (h : w.grownBy w' (some rb)) (hb : base ≤ w.heap.size) : Beside base rb w w' := ⟨h.os, h.tape, h.output, h.size, fun k hk hn => h.block k (by omega) (by intro e; injection e with e; exact hn e)⟩
theorem Beside.grow (h : Beside base rb w w1) (hg : w1.grownBy w2 row) (hb : base ≤ w.heap.size) (hr : ∀ k, row = some k → base ≤ k ∨ k = rb) : Beside base rb w w2 :=
  h.trans ⟨hg.os, hg.tape, hg.output, hg.size, fun k hk hn => hg.block k (by have := h.size; omega) (fun e => by rcases hr k e.symm with h | h <;> omega)⟩
theorem Beside.set (h : Beside base rb w w1) {p : Addr} (hp : base ≤ p.block ∨ p.block = rb) (u : Value) : Beside base rb w (w1.setCell p u) :=
  h.trans ⟨rfl, rfl, rfl, by simp [World.setCell], fun k hk hn => Below.heap_setCell w1 p u k (by rcases hp with h | h <;> omega)⟩
theorem Beside.drew (h : Beside base rb w w1) : Beside base rb w w1.drew := ⟨h.os, h.tape, h.output, h.size, h.block⟩

/-- The reader: its cells, the program that has been read, the words that are left. -/
structure St (w : World) (base rb lo hi : Nat) (rc : RC) (a : Tree.Act) (D : List Rec) (p : Prog) (N : Nat) (ws : List Wd) : Prop where
  own : OwnR w rb rc
  bld : Build w base a D p N
  ssa : rc.ssa = .bool p.ssa
  c : rc.c = a.C.v
  g : rc.g = a.G.v
  e : rc.e = a.E.v
  u : rc.u = a.U.v
  wds : Ws lo hi w rc.rest ws
  low : hi ≤ rb
  mid : rb < base
  high : base ≤ w.heap.size
theorem St.cells (h : St w base rb lo hi rc a D p N ws) : w.cell? ⟨rb, 0, none⟩ = some (.bool p.ssa) ∧ w.cell? ⟨rb, 1, none⟩ = some a.C.v ∧ w.cell? ⟨rb, 2, none⟩ = some a.G.v ∧ w.cell? ⟨rb, 3, none⟩ = some a.E.v ∧ w.cell? ⟨rb, 4, none⟩ = some a.U.v ∧ w.cell? ⟨rb, 5, none⟩ = some (i64 rc.place) ∧ w.cell? ⟨rb, 6, none⟩ = some (i64 rc.long) ∧ w.cell? ⟨rb, 7, none⟩ = some rc.first ∧ w.cell? ⟨rb, 8, none⟩ = some rc.rest ∧ w.cell? ⟨rb, 9, none⟩ = some (.bool rc.over) := by
  rw [← h.ssa, ← h.c, ← h.g, ← h.e, ← h.u]
  exact ⟨h.own.cell 0, h.own.cell 1, h.own.cell 2, h.own.cell 3, h.own.cell 4, h.own.cell 5, h.own.cell 6, h.own.cell 7, h.own.cell 8, h.own.cell 9⟩
theorem al_cell {q : Addr} {u : Value} {x : Obj} (h : w.cell? q = some u) : (w.alloc x).cell? q = some u :=
  (((Below.refl w.heap.size w).alloc (Nat.le_refl _) x).cell (World.block_lt_of_cell? w q h)).trans h
theorem St.on (h : St w base rb lo hi rc a D p N ws) {r : Rec} (hr : r ∈ a.l) : r.on w base := h.bld.ap.1 r (List.mem_append_left _ hr)
theorem St.drew (h : St w base rb lo hi rc a D p N ws) : St w.drew base rb lo hi rc a D p N ws := ⟨h.own, h.bld.same fun _ _ _ => rfl, h.ssa, h.c, h.g, h.e, h.u, h.wds.same fun _ _ => rfl, h.low, h.mid, h.high⟩
theorem St.took (h : St w base rb lo hi rc a D p N ws) (hT : OwnR w' rb { rc with rest := v }) (hW : Ws lo hi w' v l) (hg : w.grownBy w' (some rb)) : St w' base rb lo hi { rc with rest := v } a D p N l :=
  ⟨hT, h.bld.same fun k hk hlt => hg.block k hlt (by have := h.mid; intro e; injection e with e; omega), h.ssa, h.c, h.g, h.e, h.u, hW, h.low, h.mid, Nat.le_trans h.high hg.size⟩
theorem St.keep {rc' : RC} (h : St w base rb lo hi rc a D p N ws) (hO : OwnR w' rb rc') (hg : w.grownBy w' (some rb)) (h1 : rc'.ssa = rc.ssa) (h2 : rc'.c = rc.c) (h3 : rc'.g = rc.g) (h4 : rc'.e = rc.e) (h5 : rc'.u = rc.u) (h6 : rc'.rest = rc.rest) : St w' base rb lo hi rc' a D p N ws :=
  ⟨hO, h.bld.same fun k hk hlt => hg.block k hlt (by have := h.mid; intro e; injection e with e; omega), h1.trans h.ssa, h2.trans h.c, h3.trans h.g, h4.trans h.e, h5.trans h.u, by
    rw [h6]
    exact h.wds.same fun k hk => hg.block k (by have := h.low; have := h.mid; have := h.high; omega) (by have := h.low; intro e; injection e with e; omega), h.low, h.mid, Nat.le_trans h.high hg.size⟩
theorem St.more (h : St w base rb lo hi rc a D p N ws) (M : Nat) (hN : N ≤ M) : St w base rb lo hi rc a D p M ws := ⟨h.own, h.bld.more hN, h.ssa, h.c, h.g, h.e, h.u, h.wds, h.low, h.mid, h.high⟩

/-- What a line's reading leaves: a panic with ErrSyntax, or the program, the place, how long, whether it is over, the words that are left. -/
abbrev Out := Option (Prog × Int × Int × Bool × List Wd)
def Meth (base rb lo hi N : Nat) (first : Value) (w : World) (out : Out) (e : Ending) (w' : World) : Prop :=
  Beside base rb w w' ∧ match out with
  | none => e = .panicked (chain 3)
  | some (p, pl, lg, ov, ws) => e = .returned (.tuple #[]) ∧ ∃ rc a D, St w' base rb lo hi rc a D p N ws ∧ rc.place = pl ∧ rc.long = lg ∧ rc.over = ov ∧ rc.first = first

/-- 'append(s, x)' to a row that is being built, x laid in a new block: at a step of a region that draws. -/
theorem step_grow {P : Program} {ops : Array Oper} {o : Oper} {w0 : World} {K : Go.Act → World → Prop} {Q : Exit → Go.Act → World → Prop} {E : Prop} {b : Go.Act} (hg : o.guard = none) (s x : Operand) (t : TypeId)
    (hop : o.op = Op.call { callee := Callee.builtin Builtin.append, args := #[s, x], argTypes := #[t, t] })
    (base : Nat) (e : TypeId) (i : TypeInfo) (z : Value) (size bytes : Nat) (ht : P.underlying t = some (.slice e)) (hi : P.info? e = some i) (hz : i.zero = some z)
    (hsize : i.size = size) (hby : i.bytes = bytes) (hzs : z.cells.size = size) (hsz : 0 < size) (hbb : bytes ≤ 65536)
    (r : Rec) (hre : r.t = e) (hrs : r.size = size) (hs : b.eval s = r.v) (hown : r.on w0 base)
    (news : List Value) (k : Nat) (hk : k = w0.heap.size) (hx : b.eval x = .slice (some ⟨k, 0, none⟩) 1 1) (hl : news.length = size) (h1 : ∀ u ∈ news, u.oneCell' = true)
    (hN : r.n < 1073741824) (hbase : base ≤ w0.heap.size)
    (hK : ∀ g cap w', Grew (w0.alloc (.cells news.toArray e)) w' base r (.slice (some ⟨g, 0, none⟩) (r.n + 1) cap) news → K (b.put o.dst (.slice (some ⟨g, 0, none⟩) (r.n + 1) cap)) w') :
    if Region.wanted o (yielded ops b.tmps) = true then Oper.wp P o b (w0.alloc (.cells news.toArray e)) K Q else E := by
  subst hk hre hrs
  have hb2 : (r.n + 1) * bytes ≤ 140737488355328 := by
    have : (r.n + 1) * bytes ≤ 1073741824 * 65536 := Nat.mul_le_mul (by omega) hbb
    omega
  have e1 : ∀ j, (⟨w0.heap.size, 0, none⟩ : Addr).add j = ⟨w0.heap.size, j, none⟩ := fun j => by unfold Addr.add; split <;> simp_all
  refine step_append_lies (w0.alloc (.cells news.toArray r.t)) hg s x t hop base r.t i z r.size bytes ht hi hz hsize hby hzs hsz r.v r.n r.cs hs (World.ownsRow.alloc hown _) ⟨w0.heap.size, 0, none⟩ 1 1 news hx (by omega) (fun j u hu => by rw [e1, (Own.made w0 r.t news).cell]; exact hu) h1 (by omega) (by unfold maxLen; omega) hb2 (by simp; omega) (w0.heap.size + 1) (by simp) fun g cap w' o1 o2 o3 _ => hK g cap w' ⟨o1, o2, ?_⟩
  rcases o3 with o3 | o3
  · left; rw [o3]; rfl
  · right; intro k hk; simp [Value.ownBlock] at hk; simp; omega
theorem wpList_grows {P : Program} {ops : Array Oper} {rest : List Oper} {o : Oper} {w0 : World} {Q : Exit → Go.Act → World → Prop} {b : Go.Act} (hg : o.guard = none) (s x : Operand) (t : TypeId)
    (hop : o.op = Op.call { callee := Callee.builtin Builtin.append, args := #[s, x], argTypes := #[t, t] })
    (base : Nat) (e : TypeId) (i : TypeInfo) (z : Value) (size bytes : Nat) (ht : P.underlying t = some (.slice e)) (hi : P.info? e = some i) (hz : i.zero = some z)
    (hsize : i.size = size) (hby : i.bytes = bytes) (hzs : z.cells.size = size) (hsz : 0 < size) (hbb : bytes ≤ 65536)
    (r : Rec) (hre : r.t = e) (hrs : r.size = size) (hs : b.eval s = r.v) (hown : r.on w0 base)
    (news : List Value) (k : Nat) (hk : k = w0.heap.size) (hx : b.eval x = .slice (some ⟨k, 0, none⟩) 1 1) (hl : news.length = size) (h1 : ∀ u ∈ news, u.oneCell' = true)
    (hN : r.n < 1073741824) (hbase : base ≤ w0.heap.size)
    (hK : ∀ g cap w', Grew (w0.alloc (.cells news.toArray e)) w' base r (.slice (some ⟨g, 0, none⟩) (r.n + 1) cap) news → wpList P ops Q rest (b.put o.dst (.slice (some ⟨g, 0, none⟩) (r.n + 1) cap)) w') :
    wpList P ops Q (o :: rest) b (w0.alloc (.cells news.toArray e)) := by
  subst hk hre hrs
  have hb2 : (r.n + 1) * bytes ≤ 140737488355328 := by
    have : (r.n + 1) * bytes ≤ 1073741824 * 65536 := Nat.mul_le_mul (by omega) hbb
    omega
  have e1 : ∀ j, (⟨w0.heap.size, 0, none⟩ : Addr).add j = ⟨w0.heap.size, j, none⟩ := fun j => by unfold Addr.add; split <;> simp_all
  refine wpList_append_lies (w0.alloc (.cells news.toArray r.t)) hg s x t hop base r.t i z r.size bytes ht hi hz hsize hby hzs hsz r.v r.n r.cs hs (World.ownsRow.alloc hown _) ⟨w0.heap.size, 0, none⟩ 1 1 news hx (by omega) (fun j u hu => by rw [e1, (Own.made w0 r.t news).cell]; exact hu) h1 (by omega) (by unfold maxLen; omega) hb2 (by simp; omega) (w0.heap.size + 1) (by simp) fun g cap w' o1 o2 o3 _ => hK g cap w' ⟨o1, o2, ?_⟩
  rcases o3 with o3 | o3
  · left; rw [o3]; rfl
  · right; intro k hk; simp [Value.ownBlock] at hk; simp; omega

/-! ### closing a line's walk -/
theorem gr_undrew (h : w.drew.grownBy w' row) : w.grownBy w' row := ⟨h.os, h.tape, h.output, h.size, h.block⟩
theorem Ws.beside (h : Ws lo hi w v l) (hb : Beside base rb w w') (hl : hi ≤ rb) (hm : rb < base) : Ws lo hi w' v l := h.same fun k hk => hb.block k (by omega) (by omega)
theorem rb_set (h : Build w base a D p N) (hm : rb < base) (j : Nat) (u : Value) : Build (w.setCell ⟨rb, j, none⟩ u) base a D p N := h.same fun k hk _ => Below.heap_setCell w _ u k (show k ≠ rb by omega)
theorem rb_grown (h : Build w base a D p N) (hm : rb < base) (hg : w.grownBy w' (some rb)) : Build w' base a D p N := h.same fun k hk hlt => hg.block k hlt (by intro e; injection e with e; omega)
theorem al_build (h : Build w base a D p N) (o : Obj) : Build (w.alloc o) base a D p N := h.same fun _ _ hlt => heap_alloc_old w o hlt
theorem St.finish {rcf : RC} {a2 : Tree.Act} {D2 : List Rec} {p2 : Prog} {M : Nat} (hT : St w base rb lo hi rc a D p N ws) (hB : Beside base rb w w') (hO : OwnR w' rb rcf) (hb : Build w' base a2 D2 p2 M) (h0 : rcf.ssa = .bool p2.ssa) (h1 : rcf.c = a2.C.v) (h2 : rcf.g = a2.G.v) (h3 : rcf.e = a2.E.v) (h4 : rcf.u = a2.U.v) (h5 : rcf.rest = rc.rest) : St w' base rb lo hi rcf a2 D2 p2 M ws :=
  ⟨hO, hb, h0, h1, h2, h3, h4, by rw [h5]; exact hT.wds.beside hB hT.low hT.mid, hT.low, hT.mid, Nat.le_trans hT.high hB.size⟩
theorem Meth.ok {first : Value} {rcf : RC} {a2 : Tree.Act} {D2 : List Rec} {p2 : Prog} {M : Nat} {out : Out} {pl lg : Int} {ov : Bool} (hB : Beside base rb w w') (ho : out = some (p2, pl, lg, ov, l)) (hS : St w' base rb lo hi rcf a2 D2 p2 M l) (h1 : rcf.place = pl) (h2 : rcf.long = lg) (h3 : rcf.over = ov) (h4 : rcf.first = first) : Meth base rb lo hi M first w out (.returned (.tuple #[])) w' := by
  subst ho; exact ⟨hB, rfl, _, _, _, hS, h1, h2, h3, h4⟩
/-- words were taken, a row has grown, its value was stored into the reader, limit was asked. -/
theorem head_end {r : Rec} {v' : Value} {news : List Value} {t : TypeId} {cs : List Value} {a2 : Tree.Act} {D2 : List Rec} {p2 : Prog} {M j : Nat} {w3 : World} (hT : St w1 base rb lo hi rc a D p N l) (hg : w.grownBy w1 (some rb)) (hw : base ≤ w.heap.size) (hr : r ∈ a.l) (G : Grew (w1.alloc (.cells cs.toArray t)) w2 base r v' news)
    (hb : Build w2 base a2 D2 p2 M) (h3 : (w2.setCell ⟨rb, j, none⟩ v').grownBy w3 (some rb)) : Beside base rb w w3 ∧ Beside base rb w1 w3 ∧ Build w3 base a2 D2 p2 M := by
  have hr2 := (hT.on hr)
  have b1 : Beside base rb w1 (w1.alloc (.cells cs.toArray t)) := (Beside.refl base rb w1).grow (World.grownBy_alloc w1 _ none) hT.high (by simp)
  have b2 : Beside base rb w1 w2 := b1.grow G.grow hT.high fun _ hk => .inl (hr2.lt hk).1
  have b3 : Beside base rb w1 (w2.setCell ⟨rb, j, none⟩ v') := b2.set (p := ⟨rb, j, none⟩) (.inr rfl) v'
  have b4 : Beside base rb w1 w3 := b3.grow h3 hT.high fun _ hk => by injection hk with hk; exact .inr hk.symm
  exact ⟨(Beside.of_grown hg hw).trans b4, b4, rb_grown (rb_set hb hT.mid j v') hT.mid h3⟩
theorem own_at (h : OwnR w rb rc) (j : Nat) : w.cell? ⟨rb, j, none⟩ = rc.l[j]? ∧ w.frozen? ⟨rb, j, none⟩ = false ∧ rb < w.heap.size := ⟨h.cell j, h.thaw j, h.lt⟩
theorem own_at1 (h : OwnR w rb rc) : w.cell? ⟨rb, 1, none⟩ = some rc.c ∧ w.frozen? ⟨rb, 1, none⟩ = false ∧ rb < w.heap.size := own_at h 1
theorem own_at2 (h : OwnR w rb rc) : w.cell? ⟨rb, 2, none⟩ = some rc.g ∧ w.frozen? ⟨rb, 2, none⟩ = false ∧ rb < w.heap.size := own_at h 2
theorem own_at3 (h : OwnR w rb rc) : w.cell? ⟨rb, 3, none⟩ = some rc.e ∧ w.frozen? ⟨rb, 3, none⟩ = false ∧ rb < w.heap.size := own_at h 3
theorem own_at4 (h : OwnR w rb rc) : w.cell? ⟨rb, 4, none⟩ = some rc.u ∧ w.frozen? ⟨rb, 4, none⟩ = false ∧ rb < w.heap.size := own_at h 4
theorem own_at5 (h : OwnR w rb rc) : w.cell? ⟨rb, 5, none⟩ = some (i64 rc.place) ∧ w.frozen? ⟨rb, 5, none⟩ = false ∧ rb < w.heap.size := own_at h 5
theorem own_at6 (h : OwnR w rb rc) : w.cell? ⟨rb, 6, none⟩ = some (i64 rc.long) ∧ w.frozen? ⟨rb, 6, none⟩ = false ∧ rb < w.heap.size := own_at h 6
/-- The reader stands when a row behind it has grown. -/
theorem own_grown {t : TypeId} {cs : List Value} {r : Rec} {v' : Value} {news : List Value} (h : St w base rb lo hi rc a D p N ws) (hg : Grew (w.alloc (.cells cs.toArray t)) w' base r v' news) (hr : r ∈ a.l) : OwnR w' rb rc := by
  have hlt := h.own.lt
  refine ((hg.grow.block rb (by simp; omega) (fun e => ?_)).trans (heap_alloc_old w _ hlt)).trans h.own
  have := ((h.on hr).lt e.symm).1
  have := h.mid
  omega
theorem take_cases {β : Type} {val : β → Value} {r : Option (β × List Wd)} {e : Ending} (h : TakeR val r lo hi rb rc w e w') :
    (r = none ∧ e = .panicked (chain 3) ∧ w.grownBy w' (some rb)) ∨ ∃ y l v, r = some (y, l) ∧ e = .returned (val y) ∧ OwnR w' rb { rc with rest := v } ∧ Ws lo hi w' v l ∧ w.grownBy w' (some rb) := by
  cases r with
  | none => exact .inl ⟨rfl, h.1, h.2⟩
  | some y => obtain ⟨h1, v, h2, h3, h4⟩ := h; exact .inr ⟨y.1, y.2, v, rfl, h1, h2, h3, h4⟩
theorem Meth.bad {first : Value} {out : Out} (hb : Beside base rb w w') (ho : out = none) : Meth base rb lo hi N first w out (.panicked (chain 3)) w' := by
  subst ho; exact ⟨hb, rfl⟩
theorem st_bad {first : Value} {out : Out} (hh : Hid (St w base rb lo hi rc a D p N ws)) (hg : w.grownBy w' (some rb)) (ho : out = none) {M : Nat} : Meth base rb lo hi M first w out (.panicked (chain 3)) w' :=
  Meth.bad (Beside.of_grown hg hh.out.high) ho
end Go.Proofs.YtkmndgjabkjafaaGreatDoor.Rd5

namespace Go.Proofs.YtkmndgjabkjafaaGreatDoor.Rd5
open Go.RowKit Api Hold Mem Syn WordM Tree

variable {w w' w1 w2 : World} {lo hi rb base N : Nat} {rc : RC} {v : Value} {l ws : List Wd} {row : Option Nat} {a : Tree.Act} {D : List Rec} {p : Prog}
/-- Only the count of draws has turned. -/
def SameH (w w' : World) : Prop := w'.heap = w.heap ∧ w'.os = w.os ∧ w'.tape = w.tape ∧ w'.output = w.output
theorem SameH.refl (w : World) : SameH w w := ⟨rfl, rfl, rfl, rfl⟩
theorem SameH.trans (h : SameH w w1) (h2 : SameH w1 w2) : SameH w w2 := ⟨h2.1.trans h.1, h2.2.1.trans h.2.1, h2.2.2.1.trans h.2.2.1, h2.2.2.2.trans h.2.2.2⟩
theorem SameH.grown (h : SameH w w') (row : Option Nat) : w.grownBy w' row := ⟨h.2.1, h.2.2.1, h.2.2.2, by rw [h.1]; exact Nat.le_refl _, fun k _ _ => by rw [h.1]⟩
theorem SameH.drew (h : SameH w w') : SameH w w'.drew := ⟨h.1, h.2.1, h.2.2.1, h.2.2.2⟩
theorem SameH.drewN (w : World) (n : Nat) : SameH w (w.drewN n) := ⟨rfl, rfl, rfl, rfl⟩
theorem SameH.st (h : SameH w w') (hS : St w base rb lo hi rc a D p N ws) : St w' base rb lo hi rc a D p N ws :=
  hS.keep ((congrArg (·[rb]?) h.1).trans hS.own) (h.grown _) rfl rfl rfl rfl rfl rfl
theorem SameH.cell (h : SameH w w') {q : Addr} {u : Value} (hc : w.cell? q = some u) : w'.cell? q = some u := (World.cell?_of_block (by rw [h.1])).trans hc
theorem SameH.thaw (h : SameH w w') {q : Addr} {u : Bool} (hc : w.frozen? q = u) : w'.frozen? q = u := (World.frozen?_of_block (by rw [h.1])).trans hc

/-- The last thing of a row that has some: where it lies. -/
theorem row_at {r : Rec} {n : Nat} (h : r.on w base) (hn : r.n = n) (h0 : n ≠ 0) : ∃ m g cap, n = m + 1 ∧ r.v = .slice (some ⟨g, 0, none⟩) (m + 1) cap ∧ base ≤ g ∧ g < w.heap.size ∧ (∀ j u, r.cs[j]? = some u → w.cell? ⟨g, j, none⟩ = some u) ∧ (∀ j, w.frozen? ⟨g, j, none⟩ = false) ∧ n ≤ 9223372036854775807 := by
  obtain ⟨g, cap, cur, e, hb, hg, _, _, hm⟩ := h.at (by omega)
  refine ⟨n - 1, g, cap, by omega, by rw [e, hn]; congr 1; omega, hb, (Array.getElem?_eq_some_iff.1 hg).1, fun j u hj => h.cell e hj, fun j => h.thaw e j, by omega⟩

set_option maxHeartbeats 1000000 in
theorem lastFunc_any {g m cap : Nat} (hc : w.cell? ⟨rb, 4, none⟩ = some (.slice (some ⟨g, 0, none⟩) (m + 1) cap)) (hm : m + 1 ≤ 9223372036854775807) :
    Calls Tryz.prog 127 #[ptr rb] w fun e w' => e = .returned (.pointer (some ⟨g, m * 5, none⟩)) ∧ SameH w w' := by
  go_enter Tryz.func127, Tryz.ntmps127
  go_wp2
  go_quiet (fail)
  go_wp2
  go_ret
  exact ⟨rfl, SameH.drewN _ _⟩

set_option maxHeartbeats 1000000 in
theorem lastBlock_any {g m cap g2 m2 cap2 : Nat} (hc : w.cell? ⟨rb, 4, none⟩ = some (.slice (some ⟨g, 0, none⟩) (m + 1) cap)) (hm : m + 1 ≤ 9223372036854775807) (hc2 : w.cell? ⟨g, m * 5 + 4, none⟩ = some (.slice (some ⟨g2, 0, none⟩) (m2 + 1) cap2)) (hm2 : m2 + 1 ≤ 9223372036854775807) :
    Calls Tryz.prog 129 #[ptr rb] w fun e w' => e = .returned (.pointer (some ⟨g2, m2 * 9, none⟩)) ∧ SameH w w' := by
  have Q := Lib.hid (lastFunc_any hc hm)
  have HC2 := Lib.hid hc2
  clear hc hc2
  go_enter Tryz.func129, Tryz.ntmps129
  go_wp2_with (go_at_call 127; (with_reducible refine (Q.out).mono ?_); rintro e w1 ⟨rfl, hs⟩; have c2 := hs.cell HC2.out; have HS := Lib.hid hs; clear hs)
  go_quiet (fail)
  go_wp2
  go_ret
  exact ⟨rfl, HS.out.trans (SameH.drewN _ _)⟩
set_option maxHeartbeats 1000000 in
theorem lastInstr_any {g m cap g2 m2 cap2 g3 m3 cap3 : Nat} (hc : w.cell? ⟨rb, 4, none⟩ = some (.slice (some ⟨g, 0, none⟩) (m + 1) cap)) (hm : m + 1 ≤ 9223372036854775807) (hc2 : w.cell? ⟨g, m * 5 + 4, none⟩ = some (.slice (some ⟨g2, 0, none⟩) (m2 + 1) cap2)) (hm2 : m2 + 1 ≤ 9223372036854775807)
    (hc3 : w.cell? ⟨g2, m2 * 9 + 2, none⟩ = some (.slice (some ⟨g3, 0, none⟩) (m3 + 1) cap3)) (hm3 : m3 + 1 ≤ 9223372036854775807) :
    Calls Tryz.prog 133 #[ptr rb] w fun e w' => e = .returned (.pointer (some ⟨g3, m3 * 6, none⟩)) ∧ SameH w w' := by
  have Q := Lib.hid (lastBlock_any hc hm hc2 hm2)
  have HC3 := Lib.hid hc3
  clear hc hc2 hc3
  go_enter Tryz.func133, Tryz.ntmps133
  go_wp2_with (go_at_call 129; (with_reducible refine (Q.out).mono ?_); rintro e w1 ⟨rfl, hs⟩; have c3 := hs.cell HC3.out; have HS := Lib.hid hs; clear hs)
  go_quiet (fail)
  go_wp2
  go_ret
  exact ⟨rfl, HS.out.trans (SameH.drewN _ _)⟩

/-! ### where the last function, block, instruction lie -/
theorem last_of {α : Type} {l init : List α} {x z : α} (h : l = init ++ [x]) : l.getLast?.getD z = x := by rw [h]; simp
theorem func_path (h : St w base rb lo hi rc a D p N ws) (hne : p.funcs ≠ []) : ∃ m g cap, p.funcs.length = m + 1 ∧ a.U.v = .slice (some ⟨g, 0, none⟩) (m + 1) cap ∧ base ≤ g ∧ g < w.heap.size ∧ m + 1 ≤ 9223372036854775807 ∧
    w.cell? ⟨g, m * 5 + 2, none⟩ = some a.R.v ∧ w.cell? ⟨g, m * 5 + 3, none⟩ = some a.V.v ∧ w.cell? ⟨g, m * 5 + 4, none⟩ = some a.B.v ∧ (∀ j, w.frozen? ⟨g, j, none⟩ = false) ∧ QFunc a D [str (p.funcs.getLast?.getD funcZ).name, str (p.funcs.getLast?.getD funcZ).result, a.R.v, a.V.v, a.B.v] (p.funcs.getLast?.getD funcZ) := by
  have hu := h.bld.sh.u
  obtain ⟨init, x, c, e, _, hq, hc⟩ := hu.at hne
  obtain ⟨m, g, cap, e1, e2, h1, h2, h3, h4, h5⟩ := row_at (h.on (r := a.U) (by simp [Act.l])) hu.2.2.1 (fun e => hne (List.length_eq_zero_iff.1 e))
  have hl := last_of (z := funcZ) e
  rw [e1, Nat.add_sub_cancel] at hc
  have hq1 := hq.1
  refine ⟨m, g, cap, e1, e2, h1, h2, by omega, h3 _ _ (hc 2 _ (by rw [hq1]; rfl)), h3 _ _ (hc 3 _ (by rw [hq1]; rfl)), h3 _ _ (hc 4 _ (by rw [hq1]; rfl)), h4, ?_⟩
  rw [hl, ← hq1]
  exact hq
theorem block_path (h : St w base rb lo hi rc a D p N ws) (hne : p.funcs ≠ []) (hnb : (p.funcs.getLast?.getD funcZ).blocks ≠ []) : ∃ m g cap, (p.funcs.getLast?.getD funcZ).blocks.length = m + 1 ∧ a.B.v = .slice (some ⟨g, 0, none⟩) (m + 1) cap ∧ base ≤ g ∧ g < w.heap.size ∧ m + 1 ≤ 9223372036854775807 ∧
    w.cell? ⟨g, m * 9 + 1, none⟩ = some a.H.v ∧ w.cell? ⟨g, m * 9 + 2, none⟩ = some a.K.v ∧ (∀ j, w.frozen? ⟨g, j, none⟩ = false) ∧ ∃ c2, QBlock a D (str ((p.funcs.getLast?.getD funcZ).blocks.getLast?.getD blockZ).name :: a.H.v :: a.K.v :: c2) ((p.funcs.getLast?.getD funcZ).blocks.getLast?.getD blockZ) ∧
    ∀ j u, c2[j]? = some u → w.cell? ⟨g, m * 9 + 3 + j, none⟩ = some u := by
  obtain ⟨_, _, _, _, _, _, _, _, _, _, _, _, hq⟩ := func_path h hne
  obtain ⟨_, _, _, hb⟩ := hq
  obtain ⟨init, x, c, e, _, hqb, hc⟩ := hb.at hnb
  obtain ⟨m, g, cap, e1, e2, h1, h2, h3, h4, h5⟩ := row_at (h.on (r := a.B) (by simp [Act.l])) hb.2.2.1 (fun e => hnb (List.length_eq_zero_iff.1 e))
  have hl := last_of (z := blockZ) e
  rw [e1, Nat.add_sub_cancel] at hc
  obtain ⟨c2, hq1, hq2⟩ := hqb
  refine ⟨m, g, cap, e1, e2, h1, h2, by omega, h3 _ _ (hc 1 _ (by rw [hq1]; rfl)), h3 _ _ (hc 2 _ (by rw [hq1]; rfl)), h4, c2, ?_, fun j u hj => ?_⟩
  · rw [hl]
    exact ⟨c2, rfl, hq2⟩
  · have := h3 _ _ (hc (3 + j) u (by rw [hq1, Nat.add_comm 3 j]; exact hj))
    rw [← this]
    congr 2
    omega
theorem instr_path (h : St w base rb lo hi rc a D p N ws) (hne : p.funcs ≠ []) (hnb : (p.funcs.getLast?.getD funcZ).blocks ≠ []) (hnc : ((p.funcs.getLast?.getD funcZ).blocks.getLast?.getD blockZ).code ≠ []) :
    ∃ m g cap, ((p.funcs.getLast?.getD funcZ).blocks.getLast?.getD blockZ).code.length = m + 1 ∧ a.K.v = .slice (some ⟨g, 0, none⟩) (m + 1) cap ∧ base ≤ g ∧ g < w.heap.size ∧ m + 1 ≤ 9223372036854775807 ∧
    w.cell? ⟨g, m * 6 + 4, none⟩ = some a.M.v ∧ w.cell? ⟨g, m * 6 + 5, none⟩ = some a.O.v ∧ (∀ j, w.frozen? ⟨g, j, none⟩ = false) := by
  obtain ⟨_, _, _, _, _, _, _, _, _, _, _, c2, hq, _⟩ := block_path h hne hnb
  obtain ⟨_, _, _, hk, _⟩ := hq
  obtain ⟨init, x, c, e, _, hqb, hc⟩ := hk.at hnc
  obtain ⟨m, g, cap, e1, e2, h1, h2, h3, h4, h5⟩ := row_at (h.on (r := a.K) (by simp [Act.l])) hk.2.2.1 (fun e => hnc (List.length_eq_zero_iff.1 e))
  rw [e1, Nat.add_sub_cancel] at hc
  obtain ⟨u, hq1, hq2⟩ := hqb
  exact ⟨m, g, cap, e1, e2, h1, h2, by omega, h3 _ _ (hc 4 _ (by rw [hq1]; rfl)), h3 _ _ (hc 5 _ (by rw [hq1]; rfl)), h4⟩

theorem class_path (h : St w base rb lo hi rc a D p N ws) (hne : p.classes ≠ []) : ∃ m g cap, p.classes.length = m + 1 ∧ a.C.v = .slice (some ⟨g, 0, none⟩) (m + 1) cap ∧ base ≤ g ∧ g < w.heap.size ∧ m + 1 ≤ 9223372036854775807 ∧
    w.cell? ⟨g, m * 2 + 1, none⟩ = some a.F.v ∧ (∀ j, w.frozen? ⟨g, j, none⟩ = false) := by
  have hu := h.bld.sh.c
  obtain ⟨init, x, c, e, _, hq, hc⟩ := hu.at hne
  obtain ⟨m, g, cap, e1, e2, h1, h2, h3, h4, h5⟩ := row_at (h.on (r := a.C) (by simp [Act.l])) hu.2.2.1 (fun e => hne (List.length_eq_zero_iff.1 e))
  rw [e1, Nat.add_sub_cancel] at hc
  have hq1 := hq.1
  exact ⟨m, g, cap, e1, e2, h1, h2, by omega, h3 _ _ (hc 1 _ (by rw [hq1]; rfl)), h4⟩
theorem ap_ne {A B : List Rec} {r x : Rec} {k : Nat} (h : Apart w base (A ++ r :: B)) (hx : x ∈ A ++ B) (hk : x.v.ownBlock = some k) : some k ≠ r.v.ownBlock := by
  rcases (ap_front h).other hx with e | e
  · rw [hk] at e; cases e
  · rw [← hk]; exact e
/-- a cell of another row than the one that has grown. -/
theorem grew_cell {t : TypeId} {cs : List Value} {r : Rec} {v' : Value} {news : List Value} {g q : Nat} {u : Value} (G : Grew (w.alloc (.cells cs.toArray t)) w' base r v' news) (hg : g < w.heap.size) (hne : some g ≠ r.v.ownBlock) (hc : w.cell? ⟨g, q, none⟩ = some u) (hz : w.frozen? ⟨g, q, none⟩ = false) :
    w'.cell? ⟨g, q, none⟩ = some u ∧ w'.frozen? ⟨g, q, none⟩ = false ∧ g < w'.heap.size := by
  have hb : w'.heap[g]? = w.heap[g]? := (G.grow.block g (by simp; omega) hne).trans (heap_alloc_old w _ hg)
  exact ⟨(World.cell?_of_block (a := ⟨g, q, none⟩) hb).trans hc, (World.frozen?_of_block (a := ⟨g, q, none⟩) hb).trans hz, by have := G.grow.size; simp at this; omega⟩
theorem grown_cell {g q : Nat} {u : Value} (hg : w.grownBy w' (some rb)) (hne : g ≠ rb) (hc : w.cell? ⟨g, q, none⟩ = some u) (hz : w.frozen? ⟨g, q, none⟩ = false) : w'.cell? ⟨g, q, none⟩ = some u ∧ w'.frozen? ⟨g, q, none⟩ = false ∧ g < w'.heap.size := by
  have hlt := World.block_lt_of_cell? w _ hc
  have hb : w'.heap[g]? = w.heap[g]? := hg.block g hlt (by intro e; injection e with e; exact hne e)
  exact ⟨(World.cell?_of_block (a := ⟨g, q, none⟩) hb).trans hc, (World.frozen?_of_block (a := ⟨g, q, none⟩) hb).trans hz, by have := hg.size; have : g < w.heap.size := hlt; omega⟩
/-- words were taken, a row has grown, its value was stored into the row ahead of it, limit was asked. -/
theorem inner_end {r : Rec} {v' : Value} {news : List Value} {t : TypeId} {cs : List Value} {a2 : Tree.Act} {D2 : List Rec} {p2 : Prog} {M g q : Nat} {w3 : World} (hT : St w1 base rb lo hi rc a D p N l) (hg : w.grownBy w1 (some rb)) (hw : base ≤ w.heap.size) (hr : r ∈ a.l) (G : Grew (w1.alloc (.cells cs.toArray t)) w2 base r v' news)
    (hb : Build (w2.setCell ⟨g, q, none⟩ v') base a2 D2 p2 M) (hgb : base ≤ g) (h3 : (w2.setCell ⟨g, q, none⟩ v').grownBy w3 (some rb)) : Beside base rb w w3 ∧ Beside base rb w1 w3 ∧ Build w3 base a2 D2 p2 M := by
  have hr2 := (hT.on hr)
  have b1 : Beside base rb w1 (w1.alloc (.cells cs.toArray t)) := (Beside.refl base rb w1).grow (World.grownBy_alloc w1 _ none) hT.high (by simp)
  have b2 : Beside base rb w1 w2 := b1.grow G.grow hT.high fun _ hk => .inl (hr2.lt hk).1
  have b3 : Beside base rb w1 (w2.setCell ⟨g, q, none⟩ v') := b2.set (p := ⟨g, q, none⟩) (.inl hgb) v'
  have b4 : Beside base rb w1 w3 := b3.grow h3 hT.high fun _ hk => by injection hk with hk; exact .inr hk.symm
  exact ⟨(Beside.of_grown hg hw).trans b4, b4, rb_grown hb hT.mid h3⟩
set_option maxHeartbeats 1000000 in
theorem lengthen_any (hO : OwnR w rb rc) (hl : 0 ≤ rc.long ∧ rc.long ≤ 1000000) :
    Calls Tryz.prog 130 #[ptr rb] w fun e w' => e = .returned (.tuple #[]) ∧ OwnR w' rb { rc with long := rc.long + 1, over := rc.over || decide (1024 < rc.long + 1) } ∧ w.grownBy w' (some rb) := by
  obtain ⟨f6, z6, l6⟩ := own_at6 hO
  have ho2 : OwnR (w.setCell ⟨rb, 6, none⟩ (i64 (rc.long + 1))) rb { rc with long := rc.long + 1 } := hO.store 6 _
  have HO2 := Lib.hid ho2
  have hl1 := hl.1
  have hl2 := hl.2
  clear hO ho2 hl
  go_enter Tryz.func130, Tryz.ntmps130
  go_wp2_with (go_at_call 123; (with_reducible refine (limit_any _ _ HO2.out).mono ?_); rintro e w3 ⟨rfl, ho3, hg3, _⟩; have HO3 := Lib.hid ho3; have HG3 := Lib.hid hg3; clear ho3 hg3)
  go_end0
  exact ⟨rfl, HO3.out, (gr_set_row (gr_refl _ _) rfl _).trans HG3.out⟩
end Go.Proofs.YtkmndgjabkjafaaGreatDoor.Rd5

namespace Go.Proofs.YtkmndgjabkjafaaGreatDoor.Tree
open Go.RowKit Api Hold Mem Syn

variable {w w' : World} {base : Nat} {r : Rec} {A B D R : List Rec} {a : Act} {p : Prog} {v' : Value} {news : List Value} {N : Nat}

/-! ### a block's end -/
theorem fold_set {cs0 c : List Value} (us : List (Nat × Value)) : us.foldl (fun cs q => cs.set (cs0.length + q.1) q.2) (cs0 ++ c) = cs0 ++ us.foldl (fun c q => c.set q.1 q.2) c := by
  induction us generalizing c with
  | nil => rfl
  | cons q us ih =>
    rw [List.foldl_cons, List.foldl_cons, List.set_append_right _ _ (by omega), Nat.add_sub_cancel_left]
    exact ih
theorem fold_len {c : List Value} (us : List (Nat × Value)) : (us.foldl (fun c q => c.set q.1 q.2) c).length = c.length := by
  induction us generalizing c with
  | nil => rfl
  | cons q us ih => rw [List.foldl_cons, ih, List.length_set]
/-- cells of the last one are written. -/
theorem SpineRow.alters {α : Type} {t : TypeId} {size : Nat} {P Q Q' : List Value → α → Prop} {F : Rec} {xs : List α} {f : α → α} (h : SpineRow t size P Q F xs) (hne : xs ≠ []) (us : List (Nat × Value)) (hq : ∀ c x, Q c x → Q' (us.foldl (fun c q => c.set q.1 q.2) c) (f x)) :
    SpineRow t size P Q' { F with cs := us.foldl (fun cs q => cs.set ((xs.length - 1) * size + q.1) q.2) F.cs } (Syn.last f xs) := by
  obtain ⟨h1, h2, h3, h4, h5⟩ := h
  refine ⟨h1, h2, by rw [last_length]; exact h3, by rw [last_length]; exact h4, ?_⟩
  rcases h5 with ⟨h5, _⟩ | ⟨init, x, cs0, c, rfl, e, h6, h7, h8⟩
  · exact absurd h5 hne
  · refine .inr ⟨init, f x, cs0, us.foldl (fun c q => c.set q.1 q.2) c, last_snoc f init x, ?_, h6, by rw [fold_len]; exact h7, hq _ _ h8⟩
    have h9 := h6.length
    show us.foldl _ F.cs = _
    rw [e, List.length_append, List.length_singleton, Nat.add_sub_cancel, ← h9]
    exact fold_set us
theorem Build.ends {g0 cap : Nat} {D2 : List Rec} {t : Api.Term} {u : Value} (h : Build w base a D p N) (hne : p.funcs ≠ []) (hnb : (p.funcs.getLast?.getD funcZ).blocks ≠ []) (hap : Apart w base (a.l ++ D2)) (hD : ∀ F ∈ D, F ∈ D2) (hv : a.B.v = .slice (some ⟨g0, 0, none⟩) a.B.n cap)
    (ht : IsTerm D2 [i64 t.kind, i64 t.a.kind, str t.a.s, i64 t.a.n, u, i64 t.n] t) {q : Nat} (hq : ((p.funcs.getLast?.getD funcZ).blocks.length - 1) * 9 = q) :
    Build ((((((w.setCell ⟨g0, q + 3, none⟩ (i64 t.kind)).setCell ⟨g0, q + 3 + 1, none⟩ (i64 t.a.kind)).setCell ⟨g0, q + 3 + 2, none⟩ (str t.a.s)).setCell ⟨g0, q + 3 + 3, none⟩ (i64 t.a.n)).setCell ⟨g0, q + 3 + 4, none⟩ u).setCell ⟨g0, q + 3 + 5, none⟩ (i64 t.n)) base
      { a with B := { a.B with cs := [(3, i64 t.kind), (4, i64 t.a.kind), (5, str t.a.s), (6, i64 t.a.n), (7, u), (8, i64 t.n)].foldl (fun cs x => cs.set (q + x.1) x.2) a.B.cs } } D2 { p with funcs := Syn.last (fun x => { x with blocks := Syn.last (fun b => { b with fin := t }) x.blocks }) p.funcs } N := by
  have hx := few_all h.few
  subst hq
  refine h.inBlock hne rfl rfl rfl rfl rfl rfl rfl rfl ?_ hD (few_mk hx) fun l hl e => ?_
  · have s1 := ap_store (A := [a.C, a.F, a.G, a.E, a.U, a.R, a.V]) (B := [a.H, a.K, a.M, a.O] ++ D2) (r := a.B) (q := ((p.funcs.getLast?.getD funcZ).blocks.length - 1) * 9 + 3) (u := i64 t.kind) hap hv
    have s2 := ap_store (A := [a.C, a.F, a.G, a.E, a.U, a.R, a.V]) (B := [a.H, a.K, a.M, a.O] ++ D2) (q := ((p.funcs.getLast?.getD funcZ).blocks.length - 1) * 9 + 3 + 1) (u := i64 t.a.kind) s1 hv
    have s3 := ap_store (A := [a.C, a.F, a.G, a.E, a.U, a.R, a.V]) (B := [a.H, a.K, a.M, a.O] ++ D2) (q := ((p.funcs.getLast?.getD funcZ).blocks.length - 1) * 9 + 3 + 2) (u := str t.a.s) s2 hv
    have s4 := ap_store (A := [a.C, a.F, a.G, a.E, a.U, a.R, a.V]) (B := [a.H, a.K, a.M, a.O] ++ D2) (q := ((p.funcs.getLast?.getD funcZ).blocks.length - 1) * 9 + 3 + 3) (u := i64 t.a.n) s3 hv
    have s5 := ap_store (A := [a.C, a.F, a.G, a.E, a.U, a.R, a.V]) (B := [a.H, a.K, a.M, a.O] ++ D2) (q := ((p.funcs.getLast?.getD funcZ).blocks.length - 1) * 9 + 3 + 4) (u := u) s4 hv
    exact ap_store (A := [a.C, a.F, a.G, a.E, a.U, a.R, a.V]) (B := [a.H, a.K, a.M, a.O] ++ D2) (q := ((p.funcs.getLast?.getD funcZ).blocks.length - 1) * 9 + 3 + 5) (u := i64 t.n) s5 hv
  · subst e
    refine (hl.mono (fun _ _ h => IsBlock.mono hD h) fun _ _ h => h).alters hnb [(3, i64 t.kind), (4, i64 t.a.kind), (5, str t.a.s), (6, i64 t.a.n), (7, u), (8, i64 t.n)] fun c x hqb => ?_
    obtain ⟨c2, e, h1, h2, h3⟩ := hqb
    obtain ⟨u0, e3, _⟩ := h3
    refine ⟨[i64 t.kind, i64 t.a.kind, str t.a.s, i64 t.a.n, u, i64 t.n], by rw [e, e3]; rfl, h1.mono fun _ _ h => IsPhi.mono hD h, h2.mono (fun _ _ h => IsInstr.mono hD h) fun c x hi => ?_, ht⟩
    obtain ⟨u, e, k1, k2, k3⟩ := hi
    exact ⟨u, e, k1.mono hD fun _ _ h => h, k2.mono fun _ _ h => IsFrame.mono hD h, k3.mono fun _ _ h => IsVirt.mono hD h⟩
end Go.Proofs.YtkmndgjabkjafaaGreatDoor.Tree
