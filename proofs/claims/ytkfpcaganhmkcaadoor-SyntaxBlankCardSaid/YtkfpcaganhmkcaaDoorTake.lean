/-
  Package syntax: name, kind, declared, number, count, value, argument, in; stands, limit.
-/
import Derived.Test.YtkfpcaganhmkcaaDoorRdr
namespace Go.Proofs.YtkfpcaganhmkcaaDoor.Rd5
open Go.RowKit Api Hold Mem Syn WordM

variable {w w' w1 w2 : World} {lo hi rb base : Nat} {rc : RC} {v : Value} {l ws : List Wd} {row : Option Nat}
theorem gr_refl (w : World) (row : Option Nat) : w.grownBy w row := ⟨rfl, rfl, rfl, Nat.le_refl _, fun _ _ _ => rfl⟩
theorem gr_alloc (h : w.grownBy w1 row) (o : Obj) : w.grownBy (w1.alloc o) row := h.trans (World.grownBy_alloc w1 o row)
theorem gr_below {B : Nat} (h : w.grownBy w1 row) (hB : w.heap.size ≤ B) (hb : Below B w1 w2) : w.grownBy w2 row :=
  ⟨hb.os.trans h.os, hb.tape.trans h.tape, hb.output.trans h.output, Nat.le_trans h.size hb.size, fun k hk hne => (hb.block k (by omega)).trans (h.block k hk hne)⟩
theorem gr_set (h : w.grownBy w1 row) {a : Addr} (ha : w.heap.size ≤ a.block) (u : Value) : w.grownBy (w1.setCell a u) row :=
  ⟨h.os, h.tape, h.output, by have := h.size; simpa [World.setCell] using this, fun k hk hne => (Below.heap_setCell w1 a u k (by omega)).trans (h.block k hk hne)⟩
theorem gr_set_row (h : w.grownBy w1 (some rb)) {a : Addr} (ha : a.block = rb) (u : Value) : w.grownBy (w1.setCell a u) (some rb) :=
  ⟨h.os, h.tape, h.output, by have := h.size; simpa [World.setCell] using this, fun k hk hne => (Below.heap_setCell w1 a u k (by subst ha; intro e; exact hne (by rw [e]))).trans (h.block k hk hne)⟩
theorem gr_drew (h : w.grownBy w1 row) : w.grownBy w1.drew row := ⟨h.os, h.tape, h.output, h.size, h.block⟩
theorem gr_any (h : w.grownBy w1 none) : w.grownBy w1 row := ⟨h.os, h.tape, h.output, h.size, fun k hk _ => h.block k hk (by simp)⟩
theorem own_set (h : OwnR w rb rc) {a : Addr} (ha : a.block ≠ rb) (u : Value) : OwnR (w.setCell a u) rb rc := (Below.heap_setCell w a u rb (Ne.symm ha)).trans h
theorem own_below {B : Nat} (h : OwnR w rb rc) (hb : Below B w w') (hB : rb < B) : OwnR w' rb rc := (hb.block rb hB).trans h
theorem Ws.same (h : Ws lo hi w v l) (hk : ∀ k, k < hi → w'.heap[k]? = w.heap[k]?) : Ws lo hi w' v l := h.move fun k _ => hk k

theorem wname_at (x : Wd) (b : Bool) (h : nameV x = b) (w : World) : Calls Tryd.prog 67 #[str x] w fun e w' => e = .returned (.bool b) ∧ w = w' := by
  rw [← h]; exact name_any ⟨x.toArray⟩ w
theorem wget_to (x : Wd) (a : Arg) (b : Bool) (h : argV x = (a, b)) (hx : x.length ≤ 4194304) (w : World) :
    Calls Tryd.prog 153 #[str x] w fun e w' => e = .returned (.tuple #[.agg #[i64 a.kind, str a.s, i64 a.n], .bool b]) ∧ Below w.heap.size w w' := by
  have hs : (⟨x.toArray⟩ : ByteArray).size = x.length := by show x.toArray.size = _; simp
  have q := wget_any ⟨x.toArray⟩ (by rw [hs]; unfold maxLen; omega) w
  have h1 := congrArg Prod.fst h
  have h2 := congrArg Prod.snd h
  unfold argV at h1 h2
  simp only at h1 h2
  rw [h2] at q
  subst h1
  unfold val at q
  simp only
  rw [show (str (wget ⟨x.toArray⟩).1.2.1.data.toList : Value) = .string (wget ⟨x.toArray⟩).1.2.1 from by show Value.string _ = _; rw [bytes_of]]
  exact q
theorem nget_to (x : Wd) (n : Int) (b : Bool) (h : NumM.getV x = (n, b)) (hx : x.length ≤ 4194304) (w : World) :
    Calls Tryd.prog 154 #[str x] w fun e w' => e = .returned (.tuple #[.int .i64 n, .bool b]) ∧ Below w.heap.size w w' := by
  have hs : (⟨x.toArray⟩ : ByteArray).size = x.length := by show x.toArray.size = _; simp
  have q := get_any ⟨x.toArray⟩ w (by rw [hs]; unfold maxLen; omega)
  have e : NumM.getV (⟨x.toArray⟩ : ByteArray).data.toList = (n, b) := h
  rw [e] at q
  exact q

def takeName : List Wd → Option (Wd × List Wd) | x :: l => if nameV x = true then some (x, l) else none | [] => none
def takeKind : List Wd → Option (Wd × List Wd) | x :: l => if kindV x = true then some (x, l) else none | [] => none
def takeNum : List Wd → Option (Int × List Wd) | x :: l => if (NumM.getV x).2 = true then some ((NumM.getV x).1, l) else none | [] => none
def takeCount (m : Int) (ws : List Wd) : Option (Int × List Wd) := match takeNum ws with | some (n, l) => if n < 0 ∨ m < n then none else some (n, l) | none => none
def takeVal : List Wd → Option (Arg × List Wd) | x :: l => if (argV x).2 = true then some ((argV x).1, l) else none | [] => none
def takeArg (ws : List Wd) : Option (Arg × List Wd) := match takeVal ws with | some (a, l) => if a.kind = 5 then none else some (a, l) | none => none
def takeVar (ws : List Wd) : Option (Var × List Wd) := match takeName ws with | some (n, l) => (match takeKind l with | some (k, l) => some (⟨n, k⟩, l) | none => none) | none => none
def takeIn (ws : List Wd) : Option (Bind × List Wd) := match takeName ws with | some (n, l) => (match takeArg l with | some (a, l) => some (⟨n, a⟩, l) | none => none) | none => none

abbrev ptr (rb : Nat) : Value := .pointer (some ⟨rb, 0, none⟩)
set_option maxHeartbeats 1000000 in
theorem name_take (hO : OwnR w rb rc) (hW : Ws lo hi w rc.rest ws) (hh : hi ≤ rb) : Calls Tryd.prog 118 #[ptr rb] w (TakeR str (takeName ws) lo hi rb rc w) := by
  cases ws with
  | nil =>
    have Q := Lib.hid (next_none hO hW)
    clear hO hW
    go_enter Tryd.func118, Tryd.ntmps118
    go_wp2_with (go_at_call 133; (with_reducible refine (Q.out).mono ?_); rintro e w1 ⟨rfl, rfl⟩)
    exact ⟨rfl, rfl, gr_refl _ _⟩
  | cons x l =>
    have Q := Lib.hid (next_some hO hW hh)
    clear hO hW
    rcases Bool.eq_false_or_eq_true (nameV x) with hb | hb
    · have e : takeName (x :: l) = some (x, l) := by simp [takeName, hb]
      rw [e]
      have Q2 := Lib.hid (wname_at x true hb)
      clear e hb
      go_enter Tryd.func118, Tryd.ntmps118
      go_wp2_with (first | (go_at_call 133; (with_reducible refine (Q.out).mono ?_); rintro e w1 ⟨rfl, hT⟩; have HT := Lib.hid hT; clear hT) | (go_at_call 67; (with_reducible refine (Q2.out _).mono ?_); rintro e w2 ⟨rfl, rfl⟩))
      go_ret
      exact ⟨rfl, HT.out⟩
    · have e : takeName (x :: l) = none := by simp [takeName, hb]
      rw [e]
      have Q2 := Lib.hid (wname_at x false hb)
      clear e hb
      go_enter Tryd.func118, Tryd.ntmps118
      go_wp2_with (first | (go_at_call 133; (with_reducible refine (Q.out).mono ?_); rintro e w1 ⟨rfl, v1, _, _, hg⟩; have HG := Lib.hid hg; clear hg) | (go_at_call 67; (with_reducible refine (Q2.out _).mono ?_); rintro e w2 ⟨rfl, rfl⟩) | (go_at_call 98; (with_reducible refine (refuse_any _ _).mono ?_); rintro e w2 ⟨rfl, rfl⟩))
      exact ⟨rfl, rfl, HG.out⟩

theorem eq_lit5 {s : ByteArray} {x c : Wd} (hs : s.data.toList = x) : (s.toList == c) = (x == c) := by rw [ByteArray.toList_eq, hs]
set_option maxHeartbeats 2000000 in
theorem kind_take (hO : OwnR w rb rc) (hW : Ws lo hi w rc.rest ws) (hh : hi ≤ rb) : Calls Tryd.prog 122 #[ptr rb] w (TakeR str (takeKind ws) lo hi rb rc w) := by
  cases ws with
  | nil =>
    have Q := Lib.hid (next_none hO hW)
    clear hO hW
    go_enter Tryd.func122, Tryd.ntmps122
    go_wp2_with (go_at_call 133; (with_reducible refine (Q.out).mono ?_); rintro e w1 ⟨rfl, rfl⟩)
    exact ⟨rfl, rfl, gr_refl _ _⟩
  | cons x l =>
    have Q0 := next_some hO hW hh
    clear hO hW
    obtain ⟨s, hs⟩ : ∃ s : ByteArray, s = ⟨x.toArray⟩ := ⟨_, rfl⟩
    have hsd : s.data.toList = x := by rw [hs]
    have e1 := eq_lit5 (c := [105, 110, 116]) hsd
    have e2 := eq_lit5 (c := [102, 108, 111, 97, 116]) hsd
    obtain ⟨t, ht⟩ : ∃ t, nameV x = t := ⟨_, rfl⟩
    have hk : kindV x = ((s.toList == [105, 110, 116]) || (s.toList == [102, 108, 111, 97, 116]) || t) := by rw [e1, e2, ← ht]; rfl
    have Q2 := Lib.hid (wname_at x t ht)
    have hx : str x = .string s := by rw [hs]
    rw [hx] at Q0
    have Q2 : Hid (∀ w : World, Calls Tryd.prog 67 #[.string s] w fun e w' => e = .returned (.bool t) ∧ w = w') := by rw [← hx]; exact Q2
    have Q := Lib.hid Q0
    have HX := Lib.hid hx
    have n1 : (s.toList != [105, 110, 116]) = !(s.toList == [105, 110, 116]) := rfl
    have n2 : (s.toList != [102, 108, 111, 97, 116]) = !(s.toList == [102, 108, 111, 97, 116]) := rfl
    clear hs hsd e1 e2 Q0 hx ht
    by_cases hg : kindV x = true
    · have e : takeKind (x :: l) = some (x, l) := by simp [takeKind, hg]
      rw [e]
      rw [hk] at hg
      clear e hk
      rcases Bool.eq_false_or_eq_true (s.toList == [105, 110, 116]) with a | a <;> rcases Bool.eq_false_or_eq_true (s.toList == [102, 108, 111, 97, 116]) with b | b
      all_goals
        rw [a, b] at hg
        rw [a] at n1
        rw [b] at n2
        simp only [Bool.not_true, Bool.not_false] at n1 n2
        cases t
        all_goals first
          | (exfalso; simp at hg; done)
          | (clear hg
             go_enter Tryd.func122, Tryd.ntmps122
             go_wp2_with (first | (go_at_call 133; (with_reducible refine (Q.out).mono ?_); rintro e w1 ⟨rfl, hT⟩; have HT := Lib.hid hT; clear hT) | (go_at_call 67; (with_reducible refine (Q2.out _).mono ?_); rintro e w2 ⟨rfl, rfl⟩))
             go_ret
             exact ⟨by rw [HX.out]; rfl, HT.out⟩)
    · have e : takeKind (x :: l) = none := by simp [takeKind, hg]
      rw [e]
      rw [hk] at hg
      clear e hk
      simp only [Bool.or_eq_true, not_or, Bool.not_eq_true] at hg
      obtain ⟨⟨a, b⟩, rfl⟩ := hg
      rw [a] at n1
      rw [b] at n2
      simp only [Bool.not_false] at n1 n2
      go_enter Tryd.func122, Tryd.ntmps122
      go_wp2_with (first | (go_at_call 133; (with_reducible refine (Q.out).mono ?_); rintro e w1 ⟨rfl, v1, _, _, hg⟩; have HG := Lib.hid hg; clear hg) | (go_at_call 67; (with_reducible refine (Q2.out _).mono ?_); rintro e w2 ⟨rfl, rfl⟩) | (go_at_call 98; (with_reducible refine (refuse_any _ _).mono ?_); rintro e w2 ⟨rfl, rfl⟩))
      exact ⟨rfl, rfl, HG.out⟩

set_option maxHeartbeats 1000000 in
theorem number_take (hO : OwnR w rb rc) (hW : Ws lo hi w rc.rest ws) (hh : hi ≤ rb) : Calls Tryd.prog 132 #[ptr rb] w (TakeR i64 (takeNum ws) lo hi rb rc w) := by
  cases ws with
  | nil =>
    have Q := Lib.hid (next_none hO hW)
    clear hO hW
    go_enter Tryd.func132, Tryd.ntmps132
    go_wp2_with (go_at_call 133; (with_reducible refine (Q.out).mono ?_); rintro e w1 ⟨rfl, rfl⟩)
    exact ⟨rfl, rfl, gr_refl _ _⟩
  | cons x l =>
    have Q := Lib.hid (next_some hO hW hh)
    obtain ⟨⟨n, b⟩, hb⟩ : ∃ r, NumM.getV x = r := ⟨_, rfl⟩
    have hx : x.length ≤ 4194304 := by
      obtain ⟨_, _, _, _, _, _, _, _, _, _, _, hs⟩ := hW
      exact hs x (by simp)
    have Q2 := Lib.hid (nget_to x n b hb hx)
    have HR := Lib.hid hO.lt
    have HH := Lib.hid hh
    clear hO hW hx hh
    cases b with
    | true =>
      have e : takeNum (x :: l) = some (n, l) := by simp [takeNum, hb]
      rw [e]
      clear e hb
      go_enter Tryd.func132, Tryd.ntmps132
      go_wp2_with (first | (go_at_call 133; (with_reducible refine (Q.out).mono ?_); rintro e w1 ⟨rfl, v1, ho, hw, hg⟩; have HO := Lib.hid ho; have HW := Lib.hid hw; have HG := Lib.hid hg; clear ho hw hg) | (go_at_call 154; (with_reducible refine (Q2.out _).mono ?_); rintro e w2 ⟨rfl, hb2⟩; have HB := Lib.hid hb2; clear hb2))
      go_ret
      have hs := HG.out.size
      have hr := HR.out
      have hh := HH.out
      exact ⟨rfl, v1, own_below HO.out HB.out (by omega), HW.out.same fun k hk => HB.out.block k (by omega), gr_below HG.out hs HB.out⟩
    | false =>
      have e : takeNum (x :: l) = none := by simp [takeNum, hb]
      rw [e]
      clear e hb
      go_enter Tryd.func132, Tryd.ntmps132
      go_wp2_with (first | (go_at_call 133; (with_reducible refine (Q.out).mono ?_); rintro e w1 ⟨rfl, v1, ho, hw, hg⟩; have HO := Lib.hid ho; have HW := Lib.hid hw; have HG := Lib.hid hg; clear ho hw hg) | (go_at_call 154; (with_reducible refine (Q2.out _).mono ?_); rintro e w2 ⟨rfl, hb2⟩; have HB := Lib.hid hb2; clear hb2) | (go_at_call 98; (with_reducible refine (refuse_any _ _).mono ?_); rintro e w3 ⟨rfl, rfl⟩))
      have hs := HG.out.size
      exact ⟨rfl, rfl, gr_below HG.out hs HB.out⟩

set_option maxHeartbeats 1000000 in
theorem count_take (m : Int) (hO : OwnR w rb rc) (hW : Ws lo hi w rc.rest ws) (hh : hi ≤ rb) : Calls Tryd.prog 121 #[ptr rb, i64 m] w (TakeR i64 (takeCount m ws) lo hi rb rc w) := by
  have Q0 := number_take hO hW hh
  unfold takeCount
  clear hO hW
  cases hn : takeNum ws with
  | none =>
    rw [hn] at Q0
    have Q := Lib.hid Q0
    clear Q0 hn
    go_enter Tryd.func121, Tryd.ntmps121
    go_wp2_with (go_at_call 132; (with_reducible refine (Q.out).mono ?_); rintro e w1 ⟨rfl, hg⟩; have HG := Lib.hid hg; clear hg)
    exact ⟨rfl, rfl, HG.out⟩
  | some y =>
    obtain ⟨n, l⟩ := y
    rw [hn] at Q0
    have Q := Lib.hid Q0
    clear Q0 hn
    simp only
    by_cases h : n < 0 ∨ m < n
    · rw [if_pos h]
      by_cases h0 : n < 0
      · have e0 : decide (n < 0) = true := decide_eq_true h0
        clear h
        go_enter Tryd.func121, Tryd.ntmps121
        go_wp2_with (first | (go_at_call 132; (with_reducible refine (Q.out).mono ?_); rintro e w1 ⟨rfl, v1, ho, hw, hg⟩; have HG := Lib.hid hg; clear ho hw hg) | (go_at_call 98; (with_reducible refine (refuse_any _ _).mono ?_); rintro e w3 ⟨rfl, rfl⟩))
        exact ⟨rfl, rfl, HG.out⟩
      · have h1 : m < n := by omega
        have e0 : decide (n < 0) = false := decide_eq_false h0
        have e1 : decide (m < n) = true := decide_eq_true h1
        clear h
        go_enter Tryd.func121, Tryd.ntmps121
        go_wp2_with (first | (go_at_call 132; (with_reducible refine (Q.out).mono ?_); rintro e w1 ⟨rfl, v1, ho, hw, hg⟩; have HG := Lib.hid hg; clear ho hw hg) | (go_at_call 98; (with_reducible refine (refuse_any _ _).mono ?_); rintro e w3 ⟨rfl, rfl⟩))
        exact ⟨rfl, rfl, HG.out⟩
    · rw [if_neg h]
      have e0 : decide (n < 0) = false := decide_eq_false (by omega)
      have e1 : decide (m < n) = false := decide_eq_false (by omega)
      clear h
      go_enter Tryd.func121, Tryd.ntmps121
      go_wp2_with (first | (go_at_call 132; (with_reducible refine (Q.out).mono ?_); rintro e w1 ⟨rfl, hT⟩; have HT := Lib.hid hT; clear hT) | (go_at_call 98; (with_reducible refine (refuse_any _ _).mono ?_); rintro e w3 ⟨rfl, rfl⟩))
      go_ret
      exact ⟨rfl, HT.out⟩

theorem alloc_own (h : OwnR w rb rc) (o : Obj) : OwnR (w.alloc o) rb rc := Own.alloc h o
theorem alloc_ws (h : Ws lo hi w v l) (hh : hi ≤ w.heap.size) (o : Obj) : Ws lo hi (w.alloc o) v l := h.same fun k hk => Below.heap_alloc w o k (by omega)
abbrev agA (a : Arg) : Value := .agg #[i64 a.kind, str a.s, i64 a.n]
abbrev zA : Obj := .cells #[i64 0, str [], i64 0] 49
theorem results_cell {fn : Func} {p : Tmp} {ty : TypeId} (h : fn.results = #[.cell p ty]) (tmps : Array Value) (P : Program) (w : World) :
    (results fn tmps).run P w = ((asAddr (tmps.getD p undef)).run P w).andThen fun a w₁ => (loadVar ty a).run P w₁ := by
  simp only [results, h]
  simp [Sem.run_bind, Result.andThen]
/-- three stores into the call's own result. -/
theorem three_end {g : Nat} {v0 v1 v2 u : Value} (hr : rb < w.heap.size) (hh : hi ≤ rb) (hO : OwnR w1 rb rc) (hW : Ws lo hi w1 u l) (hG : w.grownBy w1 (some rb)) (hb : Below w1.heap.size w1 w2) (hg : w.heap.size ≤ g) :
    OwnR (((w2.setCell ⟨g, 0, none⟩ v0).setCell ⟨g, 1, none⟩ v1).setCell ⟨g, 2, none⟩ v2) rb rc ∧ Ws lo hi (((w2.setCell ⟨g, 0, none⟩ v0).setCell ⟨g, 1, none⟩ v1).setCell ⟨g, 2, none⟩ v2) u l ∧ w.grownBy (((w2.setCell ⟨g, 0, none⟩ v0).setCell ⟨g, 1, none⟩ v1).setCell ⟨g, 2, none⟩ v2) (some rb) := by
  have hs := hG.size
  refine ⟨own_set (own_set (own_set (own_below hO hb (by omega)) (show g ≠ rb by omega) _) (show g ≠ rb by omega) _) (show g ≠ rb by omega) _, hW.same fun k hk => ?_, gr_set (gr_set (gr_set (gr_below hG hs hb) hg _) hg _) hg _⟩
  rw [Below.heap_setCell _ _ _ _ (show k ≠ g by omega), Below.heap_setCell _ _ _ _ (show k ≠ g by omega), Below.heap_setCell _ _ _ _ (show k ≠ g by omega)]
  exact hb.block k (by omega)
/-- a block laid ahead of a call that takes words, and of one that only makes memory. -/
theorem gr_made {o : Obj} (h : (w.alloc o).grownBy w1 row) : w.grownBy w1 row := (World.grownBy_alloc w o row).trans h
theorem made_size {o : Obj} (h : (w.alloc o).grownBy w1 row) : w.heap.size ≤ w1.heap.size := by have := h.size; simp at this; omega
theorem made_own {t : TypeId} {cs : List Value} (hr : rb < w.heap.size) (h : (w.alloc (.cells cs.toArray t)).grownBy w1 (some rb)) : Own w1 w.heap.size t cs :=
  (h.block w.heap.size (by simp) (by intro e; injection e with e; omega)).trans (Own.made w t cs)
theorem made_over {t : TypeId} {cs : List Value} (hr : rb < w.heap.size) (h : (w.alloc (.cells cs.toArray t)).grownBy w1 (some rb)) (hb : Below w1.heap.size w1 w2) : Own w2 w.heap.size t cs :=
  (made_own hr h).below hb (made_own hr h).lt
set_option maxHeartbeats 2000000 in
theorem value_take (hO : OwnR w rb rc) (hW : Ws lo hi w rc.rest ws) (hh : hi ≤ rb) : Calls Tryd.prog 128 #[ptr rb] w (TakeR agA (takeVal ws) lo hi rb rc w) := by
  have hr := hO.lt
  have hO1 := alloc_own hO zA
  have hW1 := alloc_ws hW (by omega) zA
  cases ws with
  | nil =>
    have Q := Lib.hid (next_none hO1 hW1)
    clear hO hW hO1 hW1
    go_enter Tryd.func128, Tryd.ntmps128
    go_wp2_with (go_at_call 133; (with_reducible refine (Q.out).mono ?_); rintro e w1 ⟨rfl, rfl⟩)
    exact ⟨rfl, rfl, gr_alloc (gr_refl _ _) _⟩
  | cons x l =>
    have Q := Lib.hid (next_some hO1 hW1 hh)
    obtain ⟨⟨⟨ak, as_, an⟩, b⟩, hb⟩ : ∃ r, argV x = r := ⟨_, rfl⟩
    have hx : x.length ≤ 4194304 := by
      obtain ⟨_, _, _, _, _, _, _, _, _, _, _, hs⟩ := hW
      exact hs x (by simp)
    have Q2 := Lib.hid (wget_to x _ b hb hx)
    have HR := Lib.hid hr
    have HH := Lib.hid hh
    clear hO hW hO1 hW1 hx hh hr
    cases b with
    | true =>
      have e : takeVal (x :: l) = some (⟨ak, as_, an⟩, l) := by simp [takeVal, hb]
      rw [e]
      clear e hb
      go_enter Tryd.func128, Tryd.ntmps128
      go_wp2_with (first | (go_at_call 133; (with_reducible refine (Q.out).mono ?_); rintro e w1 ⟨rfl, v1, ho, hw, hg⟩; have HO := Lib.hid ho; have HW := Lib.hid hw; have HG := Lib.hid hg; clear ho hw hg) | (go_at_call 153; (with_reducible refine (Q2.out _).mono ?_); rintro e w2 ⟨rfl, hb2⟩; have HB := Lib.hid hb2; clear hb2; have o3 := Own.alloc (made_over HR.out HG.out HB.out) (.cells #[i64 ak, str as_, i64 an] 49); obtain ⟨⟨c0, c1, c2⟩, ⟨z0, z1, z2⟩, hl3⟩ := own3 o3; clear o3))
      refine bodyPost_ret (v := .agg #[i64 ak, str as_, i64 an]) (by rw [results_cell rfl]; go_simp) rfl ⟨rfl, v1, ?_⟩
      exact three_end HR.out HH.out HO.out HW.out (gr_made HG.out) (HB.out.alloc (HB.out.size) _) (Nat.le_refl _)
    | false =>
      have e : takeVal (x :: l) = none := by simp [takeVal, hb]
      rw [e]
      clear e hb
      go_enter Tryd.func128, Tryd.ntmps128
      go_wp2_with (first | (go_at_call 133; (with_reducible refine (Q.out).mono ?_); rintro e w1 ⟨rfl, v1, ho, hw, hg⟩; have HO := Lib.hid ho; have HW := Lib.hid hw; have HG := Lib.hid hg; clear ho hw hg) | (go_at_call 153; (with_reducible refine (Q2.out _).mono ?_); rintro e w2 ⟨rfl, hb2⟩; have HB := Lib.hid hb2; clear hb2) | (go_at_call 98; (with_reducible refine (refuse_any _ _).mono ?_); rintro e w3 ⟨rfl, rfl⟩))
      exact ⟨rfl, rfl, gr_alloc (gr_below (gr_made HG.out) (made_size HG.out) HB.out) _⟩

set_option maxHeartbeats 2000000 in
theorem argument_take (hO : OwnR w rb rc) (hW : Ws lo hi w rc.rest ws) (hh : hi ≤ rb) : Calls Tryd.prog 131 #[ptr rb] w (TakeR agA (takeArg ws) lo hi rb rc w) := by
  have hr := hO.lt
  have hO1 := alloc_own hO zA
  have hW1 := alloc_ws hW (by omega) zA
  have Q0 := value_take hO1 hW1 hh
  have HR := Lib.hid hr
  have HH := Lib.hid hh
  unfold takeArg
  clear hO hW hO1 hW1 hr hh
  cases hn : takeVal ws with
  | none =>
    rw [hn] at Q0
    have Q := Lib.hid Q0
    clear Q0 hn
    go_enter Tryd.func131, Tryd.ntmps131
    go_wp2_with (go_at_call 128; (with_reducible refine (Q.out).mono ?_); rintro e w1 ⟨rfl, hg⟩; have HG := Lib.hid hg; clear hg)
    exact ⟨rfl, rfl, gr_made HG.out⟩
  | some y =>
    obtain ⟨⟨ak, as_, an⟩, l⟩ := y
    rw [hn] at Q0
    have Q := Lib.hid Q0
    clear Q0 hn
    simp only
    rcases Bool.eq_false_or_eq_true (ak == 5) with h5 | h5
    · rw [if_pos (by simpa using h5)]
      go_enter Tryd.func131, Tryd.ntmps131
      go_wp2_with (first | (go_at_call 128; (with_reducible refine (Q.out).mono ?_); rintro e w1 ⟨rfl, v1, ho, hw, hg⟩; have HG := Lib.hid hg; clear ho hw hg) | (go_at_call 98; (with_reducible refine (refuse_any _ _).mono ?_); rintro e w3 ⟨rfl, rfl⟩))
      exact ⟨rfl, rfl, gr_alloc (gr_made HG.out) _⟩
    · rw [if_neg (by simpa using h5)]
      go_enter Tryd.func131, Tryd.ntmps131
      go_wp2_with (first | (go_at_call 128; (with_reducible refine (Q.out).mono ?_); rintro e w1 ⟨rfl, v1, ho, hw, hg⟩; have HO := Lib.hid ho; have HW := Lib.hid hw; have HG := Lib.hid hg; clear ho hw hg; have o3 := Own.alloc (made_own HR.out HG.out) (.cells #[i64 ak, str as_, i64 an] 49); obtain ⟨⟨c0, c1, c2⟩, ⟨z0, z1, z2⟩, hl3⟩ := own3 o3; clear o3) | (go_at_call 98; (with_reducible refine (refuse_any _ _).mono ?_); rintro e w3 ⟨rfl, rfl⟩))
      refine bodyPost_ret (v := .agg #[i64 ak, str as_, i64 an]) (by rw [results_cell rfl]; go_simp) rfl ⟨rfl, v1, ?_⟩
      exact three_end HR.out HH.out HO.out HW.out (gr_made HG.out) ((Below.refl _ _).alloc (Nat.le_refl _) _) (Nat.le_refl _)

theorem own2 {g : Nat} {t : TypeId} {u0 u1 : Value} (o : Own w g t [u0, u1]) : (w.cell? ⟨g, 0, none⟩ = some u0 ∧ w.cell? ⟨g, 1, none⟩ = some u1) ∧ (w.frozen? ⟨g, 0, none⟩ = false ∧ w.frozen? ⟨g, 1, none⟩ = false) ∧ g < w.heap.size :=
  ⟨⟨o.cell 0, o.cell 1⟩, ⟨o.thaw 0, o.thaw 1⟩, o.lt⟩
theorem own4 {g : Nat} {t : TypeId} {u0 u1 u2 u3 : Value} (o : Own w g t [u0, u1, u2, u3]) : (w.cell? ⟨g, 0, none⟩ = some u0 ∧ w.cell? ⟨g, 1, none⟩ = some u1 ∧ w.cell? ⟨g, 2, none⟩ = some u2 ∧ w.cell? ⟨g, 3, none⟩ = some u3) ∧ (w.frozen? ⟨g, 0, none⟩ = false ∧ w.frozen? ⟨g, 1, none⟩ = false ∧ w.frozen? ⟨g, 2, none⟩ = false ∧ w.frozen? ⟨g, 3, none⟩ = false) ∧ g < w.heap.size :=
  ⟨⟨o.cell 0, o.cell 1, o.cell 2, o.cell 3⟩, ⟨o.thaw 0, o.thaw 1, o.thaw 2, o.thaw 3⟩, o.lt⟩
theorem own_twice {t : TypeId} {cs : List Value} (hr : rb < w.heap.size) (h : (w.alloc (.cells cs.toArray t)).grownBy w1 (some rb)) (h2 : w1.grownBy w2 (some rb)) : Own w2 w.heap.size t cs :=
  made_own hr (h.trans h2)
abbrev zV : Obj := .cells #[str [], str []] 117
abbrev zI : Obj := .cells #[str [], i64 0, str [], i64 0] 129
abbrev agV (x : Var) : Value := .agg #[str x.name, str x.type]
abbrev agB (x : Bind) : Value := .agg #[str x.name, i64 x.a.kind, str x.a.s, i64 x.a.n]
theorem two_end {g : Nat} {v0 v1 u : Value} (hr : rb < w.heap.size) (hh : hi ≤ rb) (hO : OwnR w1 rb rc) (hW : Ws lo hi w1 u l) (hG : w.grownBy w1 (some rb)) (hg : w.heap.size ≤ g) :
    OwnR ((w1.setCell ⟨g, 0, none⟩ v0).setCell ⟨g, 1, none⟩ v1) rb rc ∧ Ws lo hi ((w1.setCell ⟨g, 0, none⟩ v0).setCell ⟨g, 1, none⟩ v1) u l ∧ w.grownBy ((w1.setCell ⟨g, 0, none⟩ v0).setCell ⟨g, 1, none⟩ v1) (some rb) := by
  refine ⟨own_set (own_set hO (show g ≠ rb by omega) _) (show g ≠ rb by omega) _, hW.same fun k hk => ?_, gr_set (gr_set hG hg _) hg _⟩
  rw [Below.heap_setCell _ _ _ _ (show k ≠ g by omega), Below.heap_setCell _ _ _ _ (show k ≠ g by omega)]
theorem four_end {g : Nat} {v0 v1 v2 v3 u : Value} (hr : rb < w.heap.size) (hh : hi ≤ rb) (hO : OwnR w1 rb rc) (hW : Ws lo hi w1 u l) (hG : w.grownBy w1 (some rb)) (hg : w.heap.size ≤ g) :
    OwnR ((((w1.setCell ⟨g, 0, none⟩ v0).setCell ⟨g, 1, none⟩ v1).setCell ⟨g, 2, none⟩ v2).setCell ⟨g, 3, none⟩ v3) rb rc ∧ Ws lo hi ((((w1.setCell ⟨g, 0, none⟩ v0).setCell ⟨g, 1, none⟩ v1).setCell ⟨g, 2, none⟩ v2).setCell ⟨g, 3, none⟩ v3) u l ∧ w.grownBy ((((w1.setCell ⟨g, 0, none⟩ v0).setCell ⟨g, 1, none⟩ v1).setCell ⟨g, 2, none⟩ v2).setCell ⟨g, 3, none⟩ v3) (some rb) := by
  obtain ⟨a, b, c⟩ := two_end (v0 := v0) (v1 := v1) hr hh hO hW hG hg
  refine ⟨own_set (own_set a (show g ≠ rb by omega) _) (show g ≠ rb by omega) _, b.same fun k hk => ?_, gr_set (gr_set c hg _) hg _⟩
  rw [Below.heap_setCell _ _ _ _ (show k ≠ g by omega), Below.heap_setCell _ _ _ _ (show k ≠ g by omega)]
set_option maxHeartbeats 2000000 in
theorem declared_take (hO : OwnR w rb rc) (hW : Ws lo hi w rc.rest ws) (hh : hi ≤ rb) : Calls Tryd.prog 120 #[ptr rb] w (TakeR agV (takeVar ws) lo hi rb rc w) := by
  have hr := hO.lt
  have hO1 := alloc_own hO zV
  have hW1 := alloc_ws hW (by omega) zV
  have Q0 := name_take hO1 hW1 hh
  have HR := Lib.hid hr
  have HH := Lib.hid hh
  unfold takeVar
  clear hO hW hO1 hW1 hr hh
  cases hn : takeName ws with
  | none =>
    rw [hn] at Q0
    have Q := Lib.hid Q0
    clear Q0 hn
    go_enter Tryd.func120, Tryd.ntmps120
    go_wp2_with (go_at_call 118; (with_reducible refine (Q.out).mono ?_); rintro e w1 ⟨rfl, hg⟩; have HG := Lib.hid hg; clear hg)
    exact ⟨rfl, rfl, gr_made HG.out⟩
  | some y =>
    obtain ⟨x, l⟩ := y
    rw [hn] at Q0
    have Q := Lib.hid Q0
    clear Q0 hn
    simp only
    cases hk : takeKind l with
    | none =>
      have HK := Lib.hid hk
      clear hk
      simp only
      go_enter Tryd.func120, Tryd.ntmps120
      go_wp2_with (first | (go_at_call 118; (with_reducible refine (Q.out).mono ?_); rintro e w1 ⟨rfl, v1, ho, hw, hg⟩; have q2 := kind_take ho hw HH.out; rw [HK.out] at q2; have Q2 := Lib.hid q2; have HG := Lib.hid hg; clear q2 ho hw hg) | (go_at_call 122; (with_reducible refine (Q2.out).mono ?_); rintro e w2 ⟨rfl, hg2⟩; have HG2 := Lib.hid hg2; clear hg2))
      exact ⟨rfl, rfl, gr_made (HG.out.trans HG2.out)⟩
    | some y =>
      obtain ⟨z, l⟩ := y
      have HK := Lib.hid hk
      clear hk
      simp only
      go_enter Tryd.func120, Tryd.ntmps120
      go_wp2_with (first | (go_at_call 118; (with_reducible refine (Q.out).mono ?_); rintro e w1 ⟨rfl, v1, ho, hw, hg⟩; have q2 := kind_take ho hw HH.out; rw [HK.out] at q2; have Q2 := Lib.hid q2; have HG := Lib.hid hg; clear q2 ho hw hg) | (go_at_call 122; (with_reducible refine (Q2.out).mono ?_); rintro e w2 ⟨rfl, v2, ho, hw, hg2⟩; have HO := Lib.hid ho; have HW := Lib.hid hw; have HG2 := Lib.hid hg2; clear ho hw hg2; obtain ⟨⟨c0, c1⟩, ⟨z0, z1⟩, hl3⟩ := own2 (own_twice HR.out HG.out HG2.out)))
      refine bodyPost_ret (v := .agg #[str x, str z]) (by rw [results_cell rfl]; go_simp) rfl ⟨rfl, v2, ?_⟩
      exact two_end HR.out HH.out HO.out HW.out (gr_made (HG.out.trans HG2.out)) (Nat.le_refl _)
set_option maxHeartbeats 2000000 in
theorem in_take (hO : OwnR w rb rc) (hW : Ws lo hi w rc.rest ws) (hh : hi ≤ rb) : Calls Tryd.prog 124 #[ptr rb] w (TakeR agB (takeIn ws) lo hi rb rc w) := by
  have hr := hO.lt
  have hO1 := alloc_own hO zI
  have hW1 := alloc_ws hW (by omega) zI
  have Q0 := name_take hO1 hW1 hh
  have HR := Lib.hid hr
  have HH := Lib.hid hh
  unfold takeIn
  clear hO hW hO1 hW1 hr hh
  cases hn : takeName ws with
  | none =>
    rw [hn] at Q0
    have Q := Lib.hid Q0
    clear Q0 hn
    go_enter Tryd.func124, Tryd.ntmps124
    go_wp2_with (go_at_call 118; (with_reducible refine (Q.out).mono ?_); rintro e w1 ⟨rfl, hg⟩; have HG := Lib.hid hg; clear hg)
    exact ⟨rfl, rfl, gr_made HG.out⟩
  | some y =>
    obtain ⟨x, l⟩ := y
    rw [hn] at Q0
    have Q := Lib.hid Q0
    clear Q0 hn
    simp only
    cases hk : takeArg l with
    | none =>
      have HK := Lib.hid hk
      clear hk
      simp only
      go_enter Tryd.func124, Tryd.ntmps124
      go_wp2_with (first | (go_at_call 118; (with_reducible refine (Q.out).mono ?_); rintro e w1 ⟨rfl, v1, ho, hw, hg⟩; have q2 := argument_take ho hw HH.out; rw [HK.out] at q2; have Q2 := Lib.hid q2; have HG := Lib.hid hg; clear q2 ho hw hg) | (go_at_call 131; (with_reducible refine (Q2.out).mono ?_); rintro e w2 ⟨rfl, hg2⟩; have HG2 := Lib.hid hg2; clear hg2))
      exact ⟨rfl, rfl, gr_made (HG.out.trans HG2.out)⟩
    | some y =>
      obtain ⟨⟨ak, as_, an⟩, l⟩ := y
      have HK := Lib.hid hk
      clear hk
      simp only
      go_enter Tryd.func124, Tryd.ntmps124
      go_wp2_with (first | (go_at_call 118; (with_reducible refine (Q.out).mono ?_); rintro e w1 ⟨rfl, v1, ho, hw, hg⟩; have q2 := argument_take ho hw HH.out; rw [HK.out] at q2; have Q2 := Lib.hid q2; have HG := Lib.hid hg; clear q2 ho hw hg) | (go_at_call 131; (with_reducible refine (Q2.out).mono ?_); rintro e w2 ⟨rfl, v2, ho, hw, hg2⟩; have HO := Lib.hid ho; have HW := Lib.hid hw; have HG2 := Lib.hid hg2; clear ho hw hg2; obtain ⟨⟨c0, c1, c2, c3⟩, ⟨z0, z1, z2, z3⟩, hl3⟩ := own4 (own_twice HR.out HG.out HG2.out)))
      refine bodyPost_ret (v := .agg #[str x, i64 ak, str as_, i64 an]) (by rw [results_cell rfl]; go_simp) rfl ⟨rfl, v2, ?_⟩
      exact four_end HR.out HH.out HO.out HW.out (gr_made (HG.out.trans HG2.out)) (Nat.le_refl _)
end Go.Proofs.YtkfpcaganhmkcaaDoor.Rd5
