/-
  LiP LiPut LiVars LiCode LiEnds LiFn LiLen LiKeep
-/
import Derived.Test.YtdgmdpphimenjaaDoorPlainS
import Derived.Test.YtdgmdpphimenjaaDoorPlainN
import Derived.Test.YtdgmdpphimenjaaDoorFew
import Derived.Test.YtdgmdpphimenjaaDoorProg
import Derived.Test.YtdgmdpphimenjaaDoorRfG
import Derived.Lib.AppendStr
import Derived.Lib.Builder
import Derived.Lib.UnsafeStr
import Derived.Lib.Hide
import Derived.Lib.Walk
import Derived.Laws.IdiomStrings
import Derived.Laws.BytesArg
import Derived.Deep.RegionLaw
import Derived.StillTailTactics
import Derived.Test.YtdgmdpphimenjaaDoorOfG
import Derived.Test.YtdgmdpphimenjaaDoorOpenP
import Derived.Deep.DeepCutAuto
import Derived.Deep.RegionHeld3
import Derived.Test.YtdgmdpphimenjaaDoorLvB
/-
  Layer 6: the lines that the document has of a program, as words: plain; and how long they are at most.
-/
namespace Go.Proofs.YtdgmdpphimenjaaDoor.Ln6
open Go.RowKit Api Syn WordM
open LinesM hiding Wd

def argW (a : Arg) : Wd := wput (a.kind, ⟨a.s.toArray⟩, a.n)
def argsL (l : List Arg) : List Wd := l.map argW
def headL (x : Instr) : List Wd :=
  (if (formV x.op).1.dst = true then [x.dst, [61]] else []) ++ [(formV x.op).1.word] ++
    (if (x.op = 26 ∨ x.op = 27) ∧ 0 < x.args.length then argsL (x.args.take 1) ++ [x.name] ++ argsL (x.args.drop 1) else (if (formV x.op).1.named = true then [x.name] else []) ++ argsL x.args)
def bindW (b : Bind) : List Wd := [b.name, argW b.a]
def frameW (f : Api.Frame) : List Wd := [[97, 116], f.func, f.block, NumM.dec f.pos] ++ f.vars.flatMap bindW
def objW (o : Virt) : List Wd := [[111, 98, 106], o.cls] ++ argsL o.vals
def codeL (x : Instr) : List (List Wd) := [headL x] ++ x.frames.map frameW ++ x.objs.map objW
def endWd (k : Int) : Wd := if k = 1 then [106, 117, 109, 112] else if k = 2 then [98, 114, 97, 110, 99, 104] else if k = 3 then [114, 101, 116] else [116, 114, 97, 112]
def endW (t : Api.Term) : List Wd := [endWd t.kind] ++ (if t.kind = 2 ∨ t.kind = 3 then [argW t.a] else []) ++ t.dest ++ (if t.kind = 4 then [NumM.dec t.n] else [])
def endsL (t : Api.Term) : List (List Wd) := if t.kind < 1 ∨ 4 < t.kind then [] else [endW t]
def varW (first : Wd) (v : Var) : List Wd := [first, v.name, v.type]
def varsL (first : Wd) (l : List Var) : List (List Wd) := l.map (varW first)
def phiW (p : Phi) : List Wd := [[112, 104, 105], p.dst] ++ p.ins.flatMap bindW
def blockL (b : Api.Block) : List (List Wd) := [[[98, 108, 111, 99, 107], b.name]] ++ b.phis.map phiW ++ b.code.flatMap codeL ++ endsL b.fin
def funcL (f : Api.Func) : List (List Wd) := [[[102, 117, 110, 99], f.name, f.result]] ++ varsL [112, 97, 114, 97, 109] f.params ++ varsL [118, 97, 114] f.vars ++ f.blocks.flatMap blockL
def classL (c : Class) : List (List Wd) := [[[99, 108, 97, 115, 115], c.name]] ++ varsL [102, 105, 101, 108, 100] c.fields
def externW (e : Extern) : List Wd := [[101, 120, 116, 101, 114, 110], e.name, NumM.dec e.n]
def progL (p : Prog) : List (List Wd) := (if p.ssa = true then [[[115, 115, 97]]] else []) ++ p.classes.flatMap classL ++ varsL [103, 108, 111, 98, 97, 108] p.globals ++ p.externs.map externW ++ p.funcs.flatMap funcL

/-! ### texts of lines, one behind the other -/
theorem joinV_app (A B : List (List Wd)) : joinV (A ++ B) = joinV A ++ joinV B := by unfold joinV; exact List.flatMap_append
theorem joinV_one (ws : List Wd) : joinV [ws] = lineJ ws ++ [10] := by unfold joinV; simp

/-! ### how long -/
def wc (ws : List Wd) : Nat := Few6.sumOf (fun x => x.length + 1) ws
def lc (L : List (List Wd)) : Nat := Few6.sumOf (fun ws => wc ws + 1) L
theorem sumOf_app {α : Type} (f : α → Nat) (a b : List α) : Few6.sumOf f (a ++ b) = Few6.sumOf f a + Few6.sumOf f b := by unfold Few6.sumOf; rw [List.map_append, List.sum_append]
theorem sumOf_cons {α : Type} (f : α → Nat) (a : α) (b : List α) : Few6.sumOf f (a :: b) = f a + Few6.sumOf f b := by unfold Few6.sumOf; rw [List.map_cons, List.sum_cons]
theorem sumOf_map {α β : Type} (f : β → Nat) (g : α → β) (l : List α) : Few6.sumOf f (l.map g) = Few6.sumOf (fun x => f (g x)) l := by unfold Few6.sumOf; rw [List.map_map]; rfl
theorem sumOf_flat {α β : Type} (f : β → Nat) (g : α → List β) (l : List α) : Few6.sumOf f (l.flatMap g) = Few6.sumOf (fun x => Few6.sumOf f (g x)) l := by
  induction l with
  | nil => rfl
  | cons a l ih => rw [List.flatMap_cons, sumOf_app, sumOf_cons, ih]
theorem sumOf_mul {α : Type} {f g : α → Nat} {c : Nat} {l : List α} (h : ∀ x ∈ l, f x ≤ c * g x) : Few6.sumOf f l ≤ c * Few6.sumOf g l := by
  induction l with
  | nil => exact Nat.zero_le _
  | cons a l ih =>
    rw [sumOf_cons, sumOf_cons, Nat.mul_add]
    exact Nat.add_le_add (h a (by simp)) (ih fun x hx => h x (by simp [hx]))
theorem sumOf_add {α : Type} {f g : α → Nat} {c d : Nat} {l : List α} (h : ∀ x ∈ l, f x ≤ c * g x + d) : Few6.sumOf f l ≤ c * Few6.sumOf g l + d * l.length := by
  induction l with
  | nil => exact Nat.zero_le _
  | cons a l ih =>
    have h1 := h a (by simp)
    have h2 := ih fun x hx => h x (by simp [hx])
    rw [sumOf_cons, sumOf_cons, Nat.mul_add, List.length_cons, Nat.mul_succ]
    omega
theorem wc_app (a b : List Wd) : wc (a ++ b) = wc a + wc b := sumOf_app _ a b
theorem wc_cons (a : Wd) (b : List Wd) : wc (a :: b) = a.length + 1 + wc b := sumOf_cons _ a b
theorem wc_nil : wc [] = 0 := rfl
theorem lc_app (a b : List (List Wd)) : lc (a ++ b) = lc a + lc b := sumOf_app _ a b
theorem lc_cons (a : List Wd) (b : List (List Wd)) : lc (a :: b) = wc a + 1 + lc b := sumOf_cons _ a b
theorem lc_nil : lc [] = 0 := rfl
theorem lineJ_wc (ws : List Wd) : (lineJ ws).length ≤ wc ws := by
  cases ws with
  | nil => exact Nat.le_refl _
  | cons a l =>
    rw [wc_cons]
    have : (l.flatMap fun x => 32 :: x).length = wc l := by
      induction l with
      | nil => rfl
      | cons b l ih => rw [List.flatMap_cons, List.length_append, ih, wc_cons, List.length_cons]
    unfold lineJ
    rw [List.length_append, this]
    omega
theorem joinV_lc (L : List (List Wd)) : (joinV L).length ≤ lc L := by
  induction L with
  | nil => exact Nat.le_refl _
  | cons a l ih =>
    have e : joinV (a :: l) = lineJ a ++ [10] ++ joinV l := by unfold joinV; simp
    have := lineJ_wc a
    rw [lc_cons, e, List.length_append, List.length_append, List.length_singleton]
    omega
theorem dec_le {n : Int} (h : NumM.In n) : (NumM.dec n).length ≤ 20 := (NumM.read_dec n h).2.2
theorem argW_le {a : Arg} (h : NumM.In a.n) : (argW a).length ≤ a.s.length + 21 := by
  unfold argW
  by_cases hr : rightV (a.kind, ⟨a.s.toArray⟩, a.n) = true
  · rcases right_cases hr with ⟨s, e, hn⟩ | ⟨n, e⟩ | ⟨n, e, hpl⟩ | e | ⟨n, e, hn⟩
    · rw [e, wput1 hn]
      have : s = ⟨a.s.toArray⟩ := by
        have := congrArg (fun z => z.2.1) e
        exact this.symm
      rw [this]
      simp
    · rw [e, wput2]
      have e2 : a.n = n := congrArg (fun z => z.2.2) e
      rw [e2] at h
      have := dec_le h
      omega
    · rw [e, wput3 hpl, FloM.put_len]
      omega
    · rw [e, wput4]
      have : nullL.length ≤ 21 := by decide
      omega
    · rw [e, wput5 hn]
      have e2 : a.n = n := congrArg (fun z => z.2.2) e
      rw [e2] at h
      have := dec_le h
      simp only [List.length_cons]
      omega
  · have : wput (a.kind, ⟨a.s.toArray⟩, a.n) = [] := by unfold wput; rw [if_neg hr]
    rw [this]
    exact Nat.zero_le _
end Go.Proofs.YtdgmdpphimenjaaDoor.Ln6

/-
  Layer 6: the document's 'put': a line of words behind what is written.
-/
namespace Go.Proofs.YtdgmdpphimenjaaDoor.Ln6
open Go.RowKit Api Syn WordM Mem
open LinesM hiding Wd

theorem byte_info : (Tryd.prog.info? 5).map (fun i => (i.zero, i.size, i.bytes)) = some (some (.int .u8 0), 1, 1) := by kernel_rfl
theorem one_byte (c : Int) : ∀ u ∈ [Value.int .u8 c], u.oneCell' = true := by intro u hu; rw [List.mem_singleton] at hu; subst hu; rfl
/-- The bytes l, in a row of the call's own. -/
def Out (B : Nat) (v : Value) (l : List UInt8) (w : World) : Prop := w.ownsRow B 5 1 v l.length (Lib.byteCells l)
theorem Out.row {B : Nat} {v : Value} {l : List UInt8} {w : World} (h : Out B v l w) : w.ownsRow B 5 1 v l.length (Lib.byteCells l) := h
theorem Out.one {B : Nat} {v : Value} {l : List UInt8} {w : World} {n : Nat} {c : UInt8} {m : Int} (hm : m = (c.toNat : Int)) (hn : n = l.length + 1) (h : w.ownsRow B 5 1 v n (Lib.byteCells l ++ [.int .u8 m])) : Out B v (l ++ [c]) w := by
  subst hn hm
  unfold Out
  rw [List.length_append]
  have e : Lib.byteCells (l ++ [c]) = Lib.byteCells l ++ [.int .u8 (c.toNat : Int)] := by simp [Lib.byteCells]
  rw [e]
  exact h
theorem Out.more {B : Nat} {v : Value} {l x : List UInt8} {s : ByteArray} {w : World} {n : Nat} (hs : s = ⟨x.toArray⟩) (hn : n = l.length + s.size) (h : w.ownsRow B 5 1 v n (Lib.byteCells l ++ Lib.strCells s)) : Out B v (l ++ x) w := by
  subst hn hs
  unfold Out
  rw [List.length_append]
  have e : Lib.byteCells (l ++ x) = Lib.byteCells l ++ Lib.strCells ⟨x.toArray⟩ := by simp [Lib.byteCells, Lib.strCells]
  rw [e]
  have e2 : (⟨x.toArray⟩ : ByteArray).size = x.length := by show x.toArray.size = _; simp
  rw [e2] at h
  exact h
theorem Out.keep {B : Nat} {v : Value} {l : List UInt8} {w w' : World} (h : Out B v l w) {b : Nat} (hb : Below b w w') (hv : ∀ k, v.ownBlock = some k → k < b) : Out B v l w' := by
  refine ⟨h.1, ?_⟩
  rcases h.2 with hn | ⟨k, cap, cur, rfl, hbk, hk, r⟩
  · exact .inl hn
  · exact .inr ⟨k, cap, cur, rfl, hbk, (hb.block k (hv k rfl)).trans hk, r⟩
theorem Out.below {B : Nat} {v : Value} {l : List UInt8} {w w' : World} (h : Out B v l w) (hb : Below w.heap.size w w') : Out B v l w' := h.keep hb fun k hk => (World.ownsRow.lt h k hk).2
theorem row_keep {w w' : World} {base size n : Nat} {e : TypeId} {v : Value} {xs : List Value} {row : Option Nat} (h : w.ownsRow base e size v n xs) (hg : w.grownBy w' row) (hne : row = none ∨ row ≠ v.ownBlock) : w'.ownsRow base e size v n xs := by
  refine ⟨h.1, ?_⟩
  rcases h.2 with hn | ⟨k, cap, cur, rfl, hbk, hk, r⟩
  · exact .inl hn
  · refine .inr ⟨k, cap, cur, rfl, hbk, (hg.block k (Array.getElem?_eq_some_iff.1 hk).1 ?_).trans hk, r⟩
    rcases hne with rfl | hne
    · simp
    · exact fun e => hne e.symm
theorem row_later {w w' : World} {base size n : Nat} {e : TypeId} {v : Value} {xs : List Value} (h : w.ownsRow base e size v n xs) (hb : Below w.heap.size w w') : w'.ownsRow base e size v n xs := by
  refine ⟨h.1, ?_⟩
  rcases h.2 with hn | ⟨k, cap, cur, rfl, hbk, hk, r⟩
  · exact .inl hn
  · exact .inr ⟨k, cap, cur, rfl, hbk, (hb.block k (Array.getElem?_eq_some_iff.1 hk).1).trans hk, r⟩
theorem own_word {w : World} {base : Nat} {v : Value} {ws : List Wd} (h : w.ownsRow base 9 1 v ws.length (ws.map str)) {q : Nat} {x : Wd} (hx : ws[q]? = some x) : ∃ g c, v = .slice (some ⟨g, 0, none⟩) ws.length c ∧ w.cell? ⟨g, q, none⟩ = some (str x) := by
  have hq := (List.getElem?_eq_some_iff.1 hx).1
  rcases h.2 with ⟨_, h0⟩ | ⟨k, cap, cur, rfl, _⟩
  · omega
  · refine ⟨k, cap, rfl, ?_⟩
    have := h.cells (g := k) rfl q (str x) (by rw [List.getElem?_map, hx]; rfl)
    have e1 : (⟨k, 0, none⟩ : Addr).add q = ⟨k, q, none⟩ := by unfold Addr.add; split <;> simp_all
    rwa [e1] at this
theorem own_word_at {w : World} {base g c : Nat} {ws : List Wd} (h : w.ownsRow base 9 1 (.slice (some ⟨g, 0, none⟩) ws.length c) ws.length (ws.map str)) {q : Nat} {x : Wd} (hx : ws[q]? = some x) : w.cell? ⟨g, q, none⟩ = some (.string ⟨x.toArray⟩) := by
  obtain ⟨g', c', e, h'⟩ := own_word h hx
  cases e
  exact h'
/-- the cells of one thing of a row. -/
theorem row_at6 {α : Type} {lo hi : Nat} {w : World} {size n cap k : Nat} {A : Option Addr} {P : List Value → α → Prop} {l : List α} {x : α} (h : Row lo hi w size P (.slice A n cap) l) (hx : l[k]? = some x) : ∃ b o, A = some ⟨b, o, none⟩ ∧ b < hi ∧ ∃ cs, cs.length = size ∧ (∀ j u, cs[j]? = some u → w.cell? ⟨b, o + k * size + j, none⟩ = some u) ∧ P cs x := by
  obtain ⟨b, off, hn, hm, ha, hc⟩ := h.get
  have hi := (List.getElem?_eq_some_iff.1 hx).1
  obtain ⟨e, h1, h2⟩ := ha (by omega)
  exact ⟨b, off, e, h2, hc k x hx⟩
theorem str_info : (Tryd.prog.info? 9).map (fun i => (i.zero, i.size, i.bytes)) = some (some (.string ⟨#[]⟩), 1, 16) := by kernel_rfl
theorem one_str (x : Wd) : ∀ u ∈ [str x], u.oneCell' = true := by intro u hu; rw [List.mem_singleton] at hu; subst hu; rfl
/-- blocks of cells that are no bytes stay. -/
def KN (w w' : World) : Prop := ∀ (k : Nat) (c : Array Value) (t : TypeId) (f : Nat × Nat), w.heap[k]? = some (Obj.cells c t f) → t ≠ 5 → w'.heap[k]? = some (Obj.cells c t f)
theorem KN.refl (w : World) : KN w w := by intro k c t f h _; exact h
theorem KN.trans {a b c : World} (h : KN a b) (g : KN b c) : KN a c := by
  intro k c t f hk ht
  unfold KN at h g
  exact g k c t f (h k c t f hk ht) ht
theorem KN.below {w w' : World} (h : Below w.heap.size w w') : KN w w' := by
  intro k c t f hk _
  exact (h.block k (Array.getElem?_eq_some_iff.1 hk).1).trans hk
theorem KN.grown {w w' : World} {B n : Nat} {v : Value} {xs : List Value} (h : w.ownsRow B 5 1 v n xs) (hg : w.grownBy w' v.ownBlock) : KN w w' := by
  intro k c t f hk ht
  refine (hg.block k (Array.getElem?_eq_some_iff.1 hk).1 fun e => ?_).trans hk
  rcases h.2 with ⟨rfl, _⟩ | ⟨g, cap, cur, rfl, _, hg2, _⟩
  · cases e
  · have e2 : k = g := by
      have : some k = some g := e
      simpa using this
    subst e2
    rw [hg2] at hk
    cases hk
    exact ht rfl
theorem KN.own {w w' : World} {g : Nat} {t : TypeId} {cs : List Value} (h : KN w w') (o : Mem.Own w g t cs) (ht : t ≠ 5) : Mem.Own w' g t cs := by
  unfold KN at h
  exact h g _ _ _ o ht
/-- what is written, with lines behind it. -/
def Wr (B : Nat) (l : Wd) (Ls : List (List Wd)) (w : World) (e : Ending) (w' : World) : Prop := ∃ v, e = .returned v ∧ Out B v (l ++ joinV Ls) w' ∧ Below B w w' ∧ KN w w'

set_option maxRecDepth 100000 in
set_option maxHeartbeats 4000000 in
theorem put6_any {B B2 : Nat} {w : World} {v vl : Value} (l : Wd) (ws : List Wd) (ho : Out B v l w) (hw : w.ownsRow B2 9 1 vl ws.length (ws.map str)) (hB : B ≤ w.heap.size) (hT : l.length + (joinV [ws]).length ≤ 1099511627776) (hl : ws.length ≤ 1099511627776) :
    Calls Tryd.prog 16 #[v, vl] w (Wr B l [ws] w) := by
  obtain ⟨i0, hi, hz0, hz1, hz2⟩ := info_parts byte_info
  have Hi := Lib.hid hi
  have Hz0 := Lib.hid hz0
  have Hz1 := Lib.hid hz1
  have Hz2 := Lib.hid hz2
  rw [joinV_one, List.length_append, List.length_singleton] at hT
  have HO := Lib.hid ho
  have HW := Lib.hid hw
  have HV := Lib.hid (show ∃ A c, vl = .slice A ws.length c by
    rcases hw.2 with ⟨rfl, h0⟩ | ⟨k, cap, cur, rfl, _⟩
    · exact ⟨none, 0, by rw [h0]⟩
    · exact ⟨_, _, rfl⟩)
  clear hi hz0 hz1 hz2 ho hw
  obtain ⟨A, c, rfl⟩ := HV.out
  clear HV
  go_enter Tryd.func16, Tryd.ntmps16
  go_wp2_with fail
  go_loopw [0, 5] (fun ov iv wr => ∃ q : Nat, q ≤ ws.length ∧ iv = .int .i64 q ∧ Hid (Out B ov (l ++ lineJ (ws.take q)) wr) ∧ Hid (wr.ownsRow B2 9 1 (.slice A ws.length c) ws.length (ws.map str)) ∧ Hid (Below B w wr) ∧ Hid (B ≤ wr.heap.size) ∧ Hid (KN w wr)) (fun _ iv _ => ws.length - (intOf iv).toNat)
  case atStart => exact ⟨0, Nat.zero_le _, rfl, Lib.hid (by rw [List.take_zero]; show Out B v (l ++ []) w; rw [List.append_nil]; exact HO.out), HW, Lib.hid (Below.refl _ _), Lib.hid hB, Lib.hid (KN.refl _)⟩
  case round =>
  obtain ⟨q, hq, rfl, HH2, HW2, HB2, HS2, HK2⟩ := hrel
  by_cases hqt : q < ws.length
  · obtain ⟨x, hx⟩ : ∃ x, ws[q]? = some x := ⟨_, List.getElem?_eq_getElem hqt⟩
    obtain ⟨g, c', e', d7⟩ := own_word HW2.out hx
    simp only [Value.slice.injEq, true_and] at e'
    obtain ⟨rfl, rfl⟩ := e'
    obtain ⟨s, hs⟩ : ∃ s : ByteArray, s = ⟨x.toArray⟩ := ⟨_, rfl⟩
    have hsz : s.size = x.length := by rw [hs]; show x.toArray.size = _; simp
    have d8 : wr.cell? ⟨g, q, none⟩ = some (.string s) := by rw [hs]; exact d7
    have hp : (lineJ (ws.take (q + 1))).length ≤ (lineJ ws).length := by
      have := lineJ_le (ws.take (q + 1)) (ws.drop (q + 1))
      rwa [List.take_append_drop] at this
    have HS := Lib.hid hs
    by_cases hq0 : q = 0
    · subst hq0
      have hst := lineJ_step0 hx
      rw [hst, List.length_append] at hp
      have HST := Lib.hid hst
      have HLE := Lib.hid (show (l ++ lineJ (ws.take 0)).length + s.size ≤ 140737488355328 by rw [List.length_append]; omega)
      clear hx hst hp hs d7
      go_wp2_with (at_builtin; refine Lib.wpList_append_own_string _ rfl _ _ 53 9 rfl B 5 i0 Tryd.underlying53 Tryd.underlying9 Hi.out Hz0.out Hz1.out Hz2.out _ _ _ rfl HH2.out.row s rfl (by have := HLE.out; unfold maxLen; omega) HLE.out HS2.out ?_; intro v2 w2 hown1 hg1 _; have HH4 := Lib.hid (Out.more HS.out rfl hown1); have HB4 := Lib.hid (below_grown HB2.out HH2.out.row hg1 HS2.out (Nat.le_refl _)); have HW4 := Lib.hid (row_keep HW2.out hg1 (apart HH2.out.row HW2.out (by decide))); have hs4 := hg1.size; have HK4 := Lib.hid (HK2.out.trans (KN.grown HH2.out.row hg1)); clear hown1 hg1)
      go_roundw
      case rel => exact ⟨0 + 1, by omega, by go_num, Lib.hid (by rw [HST.out, ← List.append_assoc]; exact HH4.out), HW4, HB4, Lib.hid (Nat.le_trans HS2.out hs4), HK4⟩
      case measure => simp [intOf]; omega
    · have hq1 : 0 < q := by omega
      have hst := lineJ_step hx hq1
      rw [hst] at hp
      simp only [List.length_append, List.length_singleton] at hp
      have HST := Lib.hid hst
      have HLE1 := Lib.hid (show (l ++ lineJ (ws.take q)).length + 1 ≤ 140737488355328 by rw [List.length_append]; omega)
      have HLE := Lib.hid (show (l ++ lineJ (ws.take q) ++ [32]).length + s.size ≤ 140737488355328 by rw [List.length_append, List.length_append, List.length_singleton]; omega)
      have g1 : decide (0 < q) = true := decide_eq_true hq1
      have g2 : decide ((0 : Int) < (q : Int)) = true := decide_eq_true (by omega)
      have HX := Lib.hid hx
      clear hx hst hp hs d7
      go_wp2_with (at_builtin; first
        | (refine wpList_push rfl _ _ 53 rfl B 5 i0 (.int .u8 0) 1 1 Tryd.underlying53 Hi.out Hz0.out Hz1.out Hz2.out rfl (by decide) _ _ _ rfl HH2.out.row [.int .u8 32] rfl rfl (one_byte _) (by have := HLE1.out; unfold maxLen; omega) (by have := HLE1.out; omega) HS2.out ?_; intro v' w1 hown1 hg1; have HH3 := Lib.hid (Out.one (c := 32) rfl rfl hown1); have HB3 := Lib.hid (below_grown HB2.out HH2.out.row hg1 HS2.out (Nat.le_refl _)); have HW3 := Lib.hid (row_keep HW2.out hg1 (apart HH2.out.row HW2.out (by decide))); have HS3 := Lib.hid (Nat.le_trans HS2.out hg1.size); have HK3 := Lib.hid (HK2.out.trans (KN.grown HH2.out.row hg1)); clear hown1 hg1; have d9 := own_word_at HW3.out HX.out; rw [← HS.out] at d9)
        | (refine Lib.wpList_append_own_string _ rfl _ _ 53 9 rfl B 5 i0 Tryd.underlying53 Tryd.underlying9 Hi.out Hz0.out Hz1.out Hz2.out _ _ _ rfl HH3.out.row s rfl (by have := HLE.out; unfold maxLen; omega) HLE.out HS3.out ?_; intro v2 w2 hown1 hg1 _; have HH4 := Lib.hid (Out.more HS.out rfl hown1); have HB4 := Lib.hid (below_grown HB3.out HH3.out.row hg1 HS3.out (Nat.le_refl _)); have HW4 := Lib.hid (row_keep HW3.out hg1 (apart HH3.out.row HW3.out (by decide))); have hs4 := hg1.size; have HK4 := Lib.hid (HK3.out.trans (KN.grown HH3.out.row hg1)); clear hown1 hg1))
      go_roundw
      case rel => exact ⟨q + 1, by omega, by go_num, Lib.hid (by rw [HST.out, ← List.append_assoc, ← List.append_assoc]; exact HH4.out), HW4, HB4, Lib.hid (Nat.le_trans HS3.out hs4), HK4⟩
      case measure => simp [intOf]; omega
  · obtain rfl : q = ws.length := by omega
    rw [List.take_length] at HH2
    have HLE1 := Lib.hid (show (l ++ lineJ ws).length + 1 ≤ 140737488355328 by rw [List.length_append]; omega)
    go_wp2_with (at_builtin; refine wpList_push rfl _ _ 53 rfl B 5 i0 (.int .u8 0) 1 1 Tryd.underlying53 Hi.out Hz0.out Hz1.out Hz2.out rfl (by decide) _ _ _ rfl HH2.out.row [.int .u8 10] rfl rfl (one_byte _) (by have := HLE1.out; unfold maxLen; omega) (by have := HLE1.out; omega) HS2.out ?_; intro v' w1 hown1 hg1; have HH3 := Lib.hid (Out.one (c := 10) rfl rfl hown1); have HB3 := Lib.hid (below_grown HB2.out HH2.out.row hg1 HS2.out (Nat.le_refl _)); have HW3 := Lib.hid (row_keep HW2.out hg1 (apart HH2.out.row HW2.out (by decide))); have HS3 := Lib.hid (Nat.le_trans HS2.out hg1.size); have HK3 := Lib.hid (HK2.out.trans (KN.grown HH2.out.row hg1)); clear hown1 hg1)
    go_ret
    exact ⟨_, rfl, by rw [joinV_one, ← List.append_assoc]; exact HH3.out, HB3.out, HK3.out⟩
end Go.Proofs.YtdgmdpphimenjaaDoor.Ln6

/-
  Layer 6: the document's 'vars' and 'args'.
-/
namespace Go.Proofs.YtdgmdpphimenjaaDoor.Ln6
open Go.RowKit Api Syn WordM Mem
open LinesM hiding Wd

/-- a literal row of words. -/
theorem lit_row {w w' : World} (ws : List Wd) (base g : Nat) (cs : Array Value) (hcs : cs = (ws.map str).toArray) (hw : w.alloc (.cells cs 9) = w') (hg : g = w.heap.size) (hb : base ≤ w.heap.size) (hl : ws.length ≤ 1000000) : w'.ownsRow base 9 1 (.slice (some ⟨g, 0, none⟩) ws.length ws.length) ws.length (ws.map str) := by
  subst hcs hw hg
  exact (Mem.Own.made w 9 (ws.map str)).row hb (Nat.le_refl _) (by unfold maxLen; omega) (by simp) (by rw [List.take_of_length_le (by simp)])
theorem lit_row_d {w w' : World} (ws : List Wd) (base g : Nat) (cs : Array Value) (hcs : cs = (ws.map str).toArray) (hw : (w.alloc (.cells cs 9)).drew = w') (hg : g = w.heap.size) (hb : base ≤ w.heap.size) (hl : ws.length ≤ 1000000) : w'.ownsRow base 9 1 (.slice (some ⟨g, 0, none⟩) ws.length ws.length) ws.length (ws.map str) := by
  subst hw
  exact (lit_row ws base g cs hcs rfl hg hb hl).drew
theorem lines_step {L : List (List Wd)} {k : Nat} {ws : List Wd} (h : L[k]? = some ws) (l : Wd) : l ++ joinV (L.take (k + 1)) = l ++ joinV (L.take k) ++ joinV [ws] := by
  rw [joinV_next h, joinV_one, List.append_assoc, List.append_assoc]
theorem lines_fit {L : List (List Wd)} {k : Nat} {ws : List Wd} (h : L[k]? = some ws) {l : Wd} {n : Nat} (hT : l.length + (joinV L).length ≤ n) : (l ++ joinV (L.take k)).length + (joinV [ws]).length ≤ n := by
  have h1 := joinV_le L (k + 1)
  rw [joinV_next h, List.append_assoc, List.length_append] at h1
  rw [List.length_append, joinV_one]
  omega
set_option maxRecDepth 100000 in
set_option maxHeartbeats 4000000 in
theorem vars6_any {B lo hi : Nat} {w : World} {v vl : Value} (l first : Wd) (xs : List Var) (ho : Out B v l w) (hx : Vars lo hi w vl xs) (hh : hi ≤ B) (hB : B ≤ w.heap.size) (hT : l.length + (joinV (varsL first xs)).length ≤ 1099511627776) :
    Calls Tryd.prog 17 #[v, str first, vl] w (Wr B l (varsL first xs) w) := by
  obtain ⟨A1, k1, rfl⟩ := hx.form
  have hxl : xs.length ≤ 4611686018427387903 := by obtain ⟨_, _, _, h, _⟩ := Row.get hx; exact h
  have HX := Lib.hid hx
  have HO := Lib.hid ho
  have HT := Lib.hid hT
  clear hx ho hT
  go_enter Tryd.func17, Tryd.ntmps17
  go_wp2_with fail
  go_loopw [0, 7] (fun ov iv wr => ∃ q : Nat, q ≤ xs.length ∧ iv = .int .i64 q ∧ Hid (Out B ov (l ++ joinV ((varsL first xs).take q)) wr) ∧ Hid (Below B w wr) ∧ Hid (B ≤ wr.heap.size) ∧ Hid (KN w wr)) (fun _ iv _ => xs.length - (intOf iv).toNat)
  case atStart => exact ⟨0, Nat.zero_le _, rfl, Lib.hid (by rw [List.take_zero]; show Out B v (l ++ []) w; rw [List.append_nil]; exact HO.out), Lib.hid (Below.refl _ _), Lib.hid hB, Lib.hid (KN.refl _)⟩
  case round =>
  clear HO
  obtain ⟨q, hq, rfl, HH, HB, HS, HK⟩ := hrel
  by_cases hqt : q < xs.length
  · obtain ⟨x, hx⟩ : ∃ x, xs[q]? = some x := ⟨_, List.getElem?_eq_getElem hqt⟩
    obtain ⟨b4, o4, rfl, hb4, cs4, hcl4, hcs4, e4⟩ := row_at6 HX.out hx
    subst e4
    obtain ⟨n0, n1⟩ := at2 (cells_later hcs4 (HB.out.mono hh) hb4)
    have hvx : (varsL first xs)[q]? = some [first, x.name, x.type] := by unfold varsL; rw [List.getElem?_map, hx]; rfl
    have HVX := Lib.hid hvx
    have HQ := Lib.hid (fun (W5 : World) (hW5 : (wr.alloc (.cells #[str first, str x.name, str x.type] 9)).drew = W5) => have hb5 : Below wr.heap.size wr W5 := by rw [← hW5]; exact ((Below.refl _ _).alloc (Nat.le_refl _) _).drew
      (put6_any (w := W5) (l ++ joinV ((varsL first xs).take q)) [first, x.name, x.type] (HH.out.below hb5) (lit_row_d (w' := W5) [first, x.name, x.type] wr.heap.size wr.heap.size _ rfl hW5 rfl (Nat.le_refl _) (by simp)) (Nat.le_trans HS.out hb5.size) (lines_fit hvx HT.out) (by simp)))
    clear hx hcs4 hvx
    go_wp2_with fail
    go_region_law (go_simp; go_at_call 16; (refine (HQ.out _ rfl).mono ?_); rintro e w6 ⟨v6, rfl, h6, hb6, hk6⟩)
    all_goals
      have HO6 := Lib.hid (show Out B v6 (l ++ joinV ((varsL first xs).take (q + 1))) w6 by rw [lines_step HVX.out]; exact h6)
      have HB6 := Lib.hid ((HB.out.trans ((((Below.refl wr.heap.size wr).alloc (Nat.le_refl _) (.cells #[str first, str x.name, str x.type] 9)).drew).mono HS.out)).trans hb6)
      have HS6 := Lib.hid (Nat.le_trans HB.out.size (Nat.le_trans (Nat.le_refl _) (show wr.heap.size ≤ w6.heap.size from Nat.le_trans (by simp) hb6.size)) |> fun h => Nat.le_trans hB h)
      have HK6 := Lib.hid (HK.out.trans ((KN.below (((Below.refl wr.heap.size wr).alloc (Nat.le_refl _) (.cells #[str first, str x.name, str x.type] 9)).drew)).trans hk6))
      clear h6 hb6 hk6 HQ n0 n1
      go_wp2_with fail
      exact ⟨⟨q + 1, by omega, by go_num, HO6, HB6, HS6, HK6⟩, by simp [intOf]; omega⟩
  · obtain rfl : q = xs.length := by omega
    go_wp2_with fail
    go_ret
    have e9 : (varsL first xs).take xs.length = varsL first xs := List.take_of_length_le (by unfold varsL; simp)
    exact ⟨_, rfl, by rw [← e9]; exact HH.out, HB.out, HK.out⟩
set_option maxRecDepth 100000 in
set_option maxHeartbeats 4000000 in
theorem args6_any {B lo hi : Nat} {w : World} {v va : Value} (ws : List Wd) (xs : List Arg) (hw : w.ownsRow B 9 1 v ws.length (ws.map str)) (hx : Args lo hi w va xs) (hh : hi ≤ B) (hB : B ≤ w.heap.size) (hG : ∀ a ∈ xs, NumM.In a.n ∧ a.s.length ≤ 140737488351232) (hT : ws.length + xs.length ≤ 1000000000) :
    Calls Tryd.prog 44 #[v, va] w fun e w' => ∃ v', e = .returned v' ∧ w'.ownsRow B 9 1 v' (ws ++ argsL xs).length ((ws ++ argsL xs).map str) ∧ Below B w w' := by
  obtain ⟨i0, hi0, hz0, hz1, hz2⟩ := info_parts str_info
  have Hi := Lib.hid hi0
  have Hz0 := Lib.hid hz0
  have Hz1 := Lib.hid hz1
  have Hz2 := Lib.hid hz2
  obtain ⟨A1, k1, rfl⟩ := hx.form
  have hxl : xs.length ≤ 4611686018427387903 := by obtain ⟨_, _, _, h, _⟩ := Row.get hx; exact h
  have HX := Lib.hid hx
  have HW := Lib.hid hw
  have HG := Lib.hid hG
  clear hx hw hG hi0 hz0 hz1 hz2
  go_enter Tryd.func44, Tryd.ntmps44
  go_wp2_with fail
  go_loopw [0, 5] (fun ov iv wr => ∃ q : Nat, q ≤ xs.length ∧ iv = .int .i64 q ∧ Hid (wr.ownsRow B 9 1 ov (ws ++ argsL (xs.take q)).length ((ws ++ argsL (xs.take q)).map str)) ∧ Hid (Below B w wr) ∧ Hid (B ≤ wr.heap.size)) (fun _ iv _ => xs.length - (intOf iv).toNat)
  case atStart => exact ⟨0, Nat.zero_le _, rfl, Lib.hid (by rw [List.take_zero]; show w.ownsRow B _ 1 v (ws ++ []).length ((ws ++ []).map str); rw [List.append_nil]; exact HW.out), Lib.hid (Below.refl _ _), Lib.hid hB⟩
  case round =>
  clear HW
  obtain ⟨q, hq, rfl, HH, HB, HS⟩ := hrel
  by_cases hqt : q < xs.length
  · obtain ⟨x, hx⟩ : ∃ x, xs[q]? = some x := ⟨_, List.getElem?_eq_getElem hqt⟩
    obtain ⟨b4, o4, rfl, hb4, cs4, hcl4, hcs4, e4⟩ := row_at6 HX.out hx
    subst e4
    obtain ⟨n0, n1, n2⟩ := at3 (cells_later hcs4 (HB.out.mono hh) hb4)
    have hg := HG.out x (List.mem_of_getElem? hx)
    have QP := Lib.hid (R03.put_at x.kind ⟨x.s.toArray⟩ x.n (argW x) hg.1 (by have := hg.2; show x.s.toArray.size ≤ _; simp; omega) rfl wr)
    have HST := Lib.hid (show ws ++ argsL (xs.take (q + 1)) = ws ++ argsL (xs.take q) ++ [argW x] by
      unfold argsL
      obtain ⟨hk, rfl⟩ := List.getElem?_eq_some_iff.1 hx
      rw [List.take_succ_eq_append_getElem hk, List.map_append, List.append_assoc]; rfl)
    have HLE := Lib.hid (show (ws ++ argsL (xs.take q)).length + 1 ≤ 1000000001 by
      rw [List.length_append]; unfold argsL; rw [List.length_map, List.length_take]; omega)
    clear hx hcs4 hg
    go_wp2_with (first | (go_at_call 19; refine QP.out.mono ?_; rintro e w5 ⟨rfl, hb5⟩; have HH5 := Lib.hid (row_later HH.out hb5); have HB5 := Lib.hid (HB.out.trans (hb5.mono HS.out)); have HS5 := Lib.hid (Nat.le_trans HS.out hb5.size); clear hb5) | (at_builtin; refine wpList_push rfl _ _ 41 rfl B 9 i0 (.string ⟨#[]⟩) 1 16 Tryd.underlying41 Hi.out Hz0.out Hz1.out Hz2.out rfl (by decide) _ _ _ rfl HH5.out [str (argW x)] rfl rfl (one_str _) (by have := HLE.out; unfold maxLen; omega) (by have := HLE.out; omega) HS5.out ?_; intro v' w1 hown1 hg1; have HH6 := Lib.hid (show w1.ownsRow B 9 1 v' (ws ++ argsL (xs.take (q + 1))).length ((ws ++ argsL (xs.take (q + 1))).map str) by rw [HST.out, List.length_append, List.map_append]; exact hown1); have HB6 := Lib.hid (below_grown HB5.out HH5.out hg1 HS5.out (Nat.le_refl _)); have HS6 := Lib.hid (Nat.le_trans HS5.out hg1.size); clear hown1 hg1))
    go_roundw
    case rel => exact ⟨q + 1, by omega, by go_num, HH6, HB6, HS6⟩
    case measure => simp [intOf]; omega
  · obtain rfl : q = xs.length := by omega
    go_wp2_with fail
    go_ret
    have e9 : xs.take xs.length = xs := List.take_length
    exact ⟨_, rfl, by rw [e9] at HH; exact HH.out, HB.out⟩
end Go.Proofs.YtdgmdpphimenjaaDoor.Ln6

/-
  Layer 6: the document's 'code': an instruction's lines.
-/
namespace Go.Proofs.YtdgmdpphimenjaaDoor.Ln6
open Go.RowKit Api Syn WordM Mem
open LinesM hiding Wd

theorem laid_keep {w w' : World} {B : Nat} (h : R05.Laid w) (hb : Below B w w') (hg : 0 < B) : R05.Laid w' := fun i x hx => (hb.cell (p := ⟨0, i, none⟩) hg).trans (h i x hx)
theorem cells6 {w w' : World} {g : Nat} {t : TypeId} {cs : List Value} (o : Mem.Own w g t cs) (hb : Below w.heap.size w w') : Mem.Own w' g t cs := o.below hb o.lt
/-- words behind a row of words. -/
theorem words_push {P : Program} {w : World} {ops : Array Oper} {rest : List Oper} {o : Oper} {a : Go.Act} {Q : Exit → Go.Act → World → Prop} (hgd : o.guard = none) (s x : Operand) (t : TypeId)
    (ho : o.op = .call { callee := .builtin .append, args := #[s, x], argTypes := #[t, t] })
    (ht : P.underlying t = some (.slice 9)) (hinf : (P.info? 9).map (fun i => (i.zero, i.size, i.bytes)) = some (some (.string ⟨#[]⟩), 1, 16))
    {base : Nat} (v : Value) (ws : List Wd) (hs : a.eval s = v) (hown : w.ownsRow base 9 1 v ws.length (ws.map str))
    (news : List Wd) (cs : Array Value) (hcs : cs = (news.map str).toArray) (k m : Nat) (hk : k = w.heap.size) (hm : m = news.length) (hx : a.eval x = .slice (some ⟨k, 0, none⟩) m m)
    (hn : ws.length + news.length ≤ 2000000000) (hbase : base ≤ w.heap.size)
    (h : ∀ v' w', w'.ownsRow base 9 1 v' (ws ++ news).length ((ws ++ news).map str) → w.grownBy w' v.ownBlock → wpList P ops Q rest (a.put o.dst v') w') :
    wpList P ops Q (o :: rest) a (w.alloc (.cells cs 9)) := by
  subst hcs hk hm
  obtain ⟨i, hi, hz0, hz1, hz2⟩ := info_parts hinf
  refine wpList_append_own (w := w.alloc (.cells (news.map str).toArray 9)) hgd s x t ho base 9 i (.string ⟨#[]⟩) 1 16 ht hi hz0 hz1 hz2 rfl (by decide) v ws.length (ws.map str) hs (hown.alloc _) ⟨w.heap.size, 0, none⟩ news.length news.length (news.map str) hx (by simp) ?_ (fun u hu => ?_) (by unfold maxLen; omega) (by omega) (by simp; omega) ?_
  · intro j u hu
    have e1 : (⟨w.heap.size, 0, none⟩ : Addr).add j = ⟨w.heap.size, j, none⟩ := by unfold Addr.add; split <;> simp_all
    rw [e1, (Mem.Own.made w 9 (news.map str)).cell]
    exact hu
  · obtain ⟨y, _, rfl⟩ := List.mem_map.1 hu
    rfl
  · intro v' w' h2 h3 _
    refine h v' w' ?_ ((World.grownBy_alloc w _ _).trans h3)
    rw [List.length_append, List.map_append]
    exact h2
theorem row_pre {α : Type} {lo hi : Nat} {w : World} {size n cap m : Nat} {A : Option Addr} {P : List Value → α → Prop} {l : List α} (h : Row lo hi w size P (.slice A n cap) l) (hm : m ≤ n) : Row lo hi w size P (.slice A m cap) (l.take m) := by
  obtain ⟨A', n', cap', b, off, e, hn, hm', ha, hc⟩ := h
  cases e
  refine ⟨A, m, cap, b, off, rfl, by rw [List.length_take]; omega, ⟨by omega, by omega⟩, fun h0 => ha (by omega), fun i x hx => ?_⟩
  rw [List.getElem?_take] at hx
  split at hx
  · exact hc i x hx
  · cases hx
theorem row_none {α : Type} {lo hi : Nat} {w : World} {size n cap : Nat} {A : Option Addr} {P : List Value → α → Prop} {l : List α} (hn : n = 0) (hl : l.length = 0) : Row lo hi w size P (.slice A n cap) l := by
  subst hn
  obtain rfl := List.eq_nil_of_length_eq_zero hl
  exact ⟨A, 0, cap, 0, 0, rfl, rfl, ⟨by omega, by omega⟩, fun h => absurd h (by omega), fun i x hx => by simp at hx⟩
theorem row_drop1 {α : Type} {lo hi : Nat} {w : World} {size n cap : Nat} {A : Option Addr} {P : List Value → α → Prop} {l : List α} (h : Row lo hi w size P (.slice A n cap) l) (h1 : 1 ≤ n) : Row lo hi w size P (.slice (Option.map (fun x => ({ block := x.block, off := x.off + size } : Addr)) A) (n - 1) (cap - 1)) (l.drop 1) := by
  obtain ⟨A', n', cap', b, off, e, hn, hm', ha, hc⟩ := h
  cases e
  obtain ⟨rfl, hb1, hb2⟩ := ha (by omega)
  refine ⟨_, n - 1, cap - 1, b, off + size, rfl, by rw [List.length_drop]; omega, ⟨by omega, by omega⟩, fun h0 => ⟨rfl, hb1, hb2⟩, fun i x hx => ?_⟩
  rw [List.getElem?_drop, Nat.add_comm] at hx
  obtain ⟨cs, c1, c2, c3⟩ := hc (i + 1) x hx
  refine ⟨cs, c1, fun j u hj => ?_, c3⟩
  have := c2 j u hj
  rwa [show off + size + i * size + j = off + (i + 1) * size + j by rw [Nat.succ_mul]; omega]
def condW (x : Instr) : Bool := ((x.op == 26) || (x.op == 27)) && decide (0 < x.args.length)
def dstW (x : Instr) : List Wd := if (formV x.op).1.dst = true then [x.dst, [61]] else []
theorem dst_len (x : Instr) : (dstW x).length ≤ 2 := by unfold dstW; split <;> simp
def restW (x : Instr) : List Wd := if (x.op = 26 ∨ x.op = 27) ∧ 0 < x.args.length then argsL (x.args.take 1) ++ [x.name] ++ argsL (x.args.drop 1) else (if (formV x.op).1.named = true then [x.name] else []) ++ argsL x.args
theorem cond_iff (x : Instr) : condW x = true ↔ (x.op = 26 ∨ x.op = 27) ∧ 0 < x.args.length := by unfold condW; simp
theorem head_named {x : Instr} {fw : Wd} {fd fn : Bool} {fl fm : Int} (hF : (formV x.op).1 = ⟨fw, fd, fn, fl, fm⟩) (hc : condW x = false) (hn : fn = true) : headL x = dstW x ++ [fw] ++ [x.name] ++ argsL x.args := by
  have h : ¬ ((x.op = 26 ∨ x.op = 27) ∧ 0 < x.args.length) := fun h => by rw [(cond_iff x).2 h] at hc; cases hc
  unfold headL dstW
  rw [if_neg h, hF]
  subst hn
  simp
theorem head_plain {x : Instr} {fw : Wd} {fd fn : Bool} {fl fm : Int} (hF : (formV x.op).1 = ⟨fw, fd, fn, fl, fm⟩) (hc : condW x = false) (hn : fn = false) : headL x = dstW x ++ [fw] ++ argsL x.args := by
  have h : ¬ ((x.op = 26 ∨ x.op = 27) ∧ 0 < x.args.length) := fun h => by rw [(cond_iff x).2 h] at hc; cases hc
  unfold headL dstW
  rw [if_neg h, hF]
  subst hn
  simp
theorem head_cond {x : Instr} {fw : Wd} {fd fn : Bool} {fl fm : Int} (hF : (formV x.op).1 = ⟨fw, fd, fn, fl, fm⟩) (hc : condW x = true) : headL x = dstW x ++ [fw] ++ argsL (x.args.take 1) ++ [x.name] ++ argsL (x.args.drop 1) := by
  unfold headL dstW
  rw [if_pos ((cond_iff x).1 hc), hF]
  simp
theorem head_len (x : Instr) : (headL x).length ≤ x.args.length + 4 := by
  have h1 : (if (formV x.op).1.dst = true then [x.dst, ([61] : Wd)] else []).length ≤ 2 := by split <;> simp
  have h2 : (if (formV x.op).1.named = true then [x.name] else []).length ≤ 1 := by split <;> simp
  have h3 : (if (x.op = 26 ∨ x.op = 27) ∧ 0 < x.args.length then argsL (x.args.take 1) ++ [x.name] ++ argsL (x.args.drop 1) else (if (formV x.op).1.named = true then [x.name] else []) ++ argsL x.args).length ≤ x.args.length + 1 := by
    split
    · unfold argsL
      simp only [List.length_append, List.length_map, List.length_take, List.length_drop, List.length_singleton]
      omega
    · unfold argsL
      rw [List.length_append, List.length_map]
      omega
  unfold headL
  rw [List.length_append, List.length_append, List.length_singleton]
  omega
theorem step_words {P : Program} {ops : Array Oper} {o : Oper} {a : Go.Act} {w : World} {K : Go.Act → World → Prop} {Q : Exit → Go.Act → World → Prop} {E : Prop} (hg : o.guard = none) (s x : Operand) (t : TypeId)
    (hop : o.op = Op.call { callee := Callee.builtin Builtin.append, args := #[s, x], argTypes := #[t, t] })
    (ht : P.underlying t = some (.slice 9)) (hinf : (P.info? 9).map (fun i => (i.zero, i.size, i.bytes)) = some (some (.string ⟨#[]⟩), 1, 16))
    {base : Nat} (v : Value) (ws : List Wd) (hs : a.eval s = v) (hown : w.ownsRow base 9 1 v ws.length (ws.map str))
    (news : List Wd) (cs : Array Value) (hcs : cs = (news.map str).toArray) (k m : Nat) (hk : k = w.heap.size) (hm : m = news.length) (hx : a.eval x = .slice (some ⟨k, 0, none⟩) m m)
    (hn : ws.length + news.length ≤ 2000000000) (hbase : base ≤ w.heap.size)
    (hK : ∀ v' w', w'.ownsRow base 9 1 v' (ws ++ news).length ((ws ++ news).map str) → w.grownBy w' v.ownBlock → K (a.put o.dst v') w') :
    if Region.wanted o (yielded ops a.tmps) = true then Oper.wp P o a (w.alloc (.cells cs 9)) K Q else E := by
  have hwt : Region.wanted o (yielded ops a.tmps) = true := by simp [Region.wanted, hg]
  rw [if_pos hwt]
  subst hcs hk hm
  obtain ⟨i, hi, hz0, hz1, hz2⟩ := info_parts hinf
  refine wp_append_own (w := w.alloc (.cells (news.map str).toArray 9)) s x t hop base 9 i (.string ⟨#[]⟩) 1 16 ht hi hz0 hz1 hz2 rfl (by decide) v ws.length (ws.map str) hs (hown.alloc _) ⟨w.heap.size, 0, none⟩ news.length news.length (news.map str) hx (by simp) (fun j u hu => ?_) (fun u hu => ?_) (by unfold maxLen; omega) (by omega) (by simp; omega) ?_
  · have e1 : (⟨w.heap.size, 0, none⟩ : Addr).add j = ⟨w.heap.size, j, none⟩ := by unfold Addr.add; split <;> simp_all
    rw [e1, (Mem.Own.made w 9 (news.map str)).cell]
    exact hu
  · obtain ⟨y, _, rfl⟩ := List.mem_map.1 hu
    rfl
  · intro v' w' h2 h3 _
    refine hK v' w' ?_ ((World.grownBy_alloc w _ _).trans h3)
    rw [List.length_append, List.map_append]
    exact h2
theorem flat_next {α β : Type} (f : α → List β) {l : List α} {k : Nat} {a : α} (h : l[k]? = some a) : (l.take (k + 1)).flatMap f = (l.take k).flatMap f ++ f a := by
  obtain ⟨hk, rfl⟩ := List.getElem?_eq_some_iff.1 h
  rw [List.take_succ_eq_append_getElem hk, List.flatMap_append]
  simp
theorem flat_len (l : List Bind) : (l.flatMap bindW).length = 2 * l.length := by
  induction l with
  | nil => rfl
  | cons a l ih => rw [List.flatMap_cons, List.length_append, ih, List.length_cons]; simp [bindW]; omega
theorem vars_le {x : Instr} {y : Api.Frame} (hy : y ∈ x.frames) (hN : Few6.cInstr x ≤ 1000000) : y.vars.length ≤ 1000000 := by
  have h1 : Few6.cFrame y ≤ Few6.sumOf Few6.cFrame x.frames := Few6.sum_mem _ hy
  have h2 : y.vars.length ≤ Few6.sumOf Few6.cBind y.vars := Few6.sum_len _ _ fun b => by unfold Few6.cBind; omega
  unfold Few6.cFrame at h1
  unfold Few6.cInstr at hN
  unfold Few6.cFrame at hN
  omega
theorem vals_le {x : Instr} {y : Virt} (hy : y ∈ x.objs) (hN : Few6.cInstr x ≤ 1000000) : y.vals.length ≤ 1000000 := by
  have h1 : Few6.cVirt y ≤ Few6.sumOf Few6.cVirt x.objs := Few6.sum_mem _ hy
  unfold Few6.cVirt Few6.cArgs at h1
  unfold Few6.cInstr at hN
  unfold Few6.cVirt Few6.cArgs at hN
  omega
theorem six_next {w1 w' Wb : World} {a0 a1 a2 a3 a4 a5 : Addr} {v0 v1 v2 v3 v4 v5 : Value} (hb : Below w1.heap.size w1 w') (h : (w1.cell? a0 = some v0 ∧ w1.cell? a1 = some v1 ∧ w1.cell? a2 = some v2 ∧ w1.cell? a3 = some v3 ∧ w1.cell? a4 = some v4 ∧ w1.cell? a5 = some v5) ∧ Hid (Below Wb.heap.size Wb w1)) :
    (w'.cell? a0 = some v0 ∧ w'.cell? a1 = some v1 ∧ w'.cell? a2 = some v2 ∧ w'.cell? a3 = some v3 ∧ w'.cell? a4 = some v4 ∧ w'.cell? a5 = some v5) ∧ Hid (Below Wb.heap.size Wb w') :=
  have k : ∀ {a v}, w1.cell? a = some v → w'.cell? a = some v := fun h => (hb.cell (World.block_lt_of_cell? w1 _ h)).trans h
  ⟨⟨k h.1.1, k h.1.2.1, k h.1.2.2.1, k h.1.2.2.2.1, k h.1.2.2.2.2.1, k h.1.2.2.2.2.2⟩, Lib.hid (h.2.out.trans (hb.mono h.2.out.size))⟩
theorem six_alloc {w1 Wb : World} (ob : Obj) {a0 a1 a2 a3 a4 a5 : Addr} {v0 v1 v2 v3 v4 v5 : Value} (h : (w1.cell? a0 = some v0 ∧ w1.cell? a1 = some v1 ∧ w1.cell? a2 = some v2 ∧ w1.cell? a3 = some v3 ∧ w1.cell? a4 = some v4 ∧ w1.cell? a5 = some v5) ∧ Hid (Below Wb.heap.size Wb w1)) :
    ((w1.alloc ob).cell? a0 = some v0 ∧ (w1.alloc ob).cell? a1 = some v1 ∧ (w1.alloc ob).cell? a2 = some v2 ∧ (w1.alloc ob).cell? a3 = some v3 ∧ (w1.alloc ob).cell? a4 = some v4 ∧ (w1.alloc ob).cell? a5 = some v5) ∧ Hid (Below Wb.heap.size Wb (w1.alloc ob)) := six_next ((Below.refl _ _).alloc (Nat.le_refl _) _) h
theorem four_next {w1 w' Wb : World} {a0 a1 a2 a3 : Addr} {v0 v1 v2 v3 : Value} (hb : Below w1.heap.size w1 w') (h : (w1.cell? a0 = some v0 ∧ w1.cell? a1 = some v1 ∧ w1.cell? a2 = some v2 ∧ w1.cell? a3 = some v3) ∧ Hid (Below Wb.heap.size Wb w1)) :
    (w'.cell? a0 = some v0 ∧ w'.cell? a1 = some v1 ∧ w'.cell? a2 = some v2 ∧ w'.cell? a3 = some v3) ∧ Hid (Below Wb.heap.size Wb w') :=
  have k : ∀ {a v}, w1.cell? a = some v → w'.cell? a = some v := fun h => (hb.cell (World.block_lt_of_cell? w1 _ h)).trans h
  ⟨⟨k h.1.1, k h.1.2.1, k h.1.2.2.1, k h.1.2.2.2⟩, Lib.hid (h.2.out.trans (hb.mono h.2.out.size))⟩
theorem four_alloc {w1 Wb : World} (ob : Obj) {a0 a1 a2 a3 : Addr} {v0 v1 v2 v3 : Value} (h : (w1.cell? a0 = some v0 ∧ w1.cell? a1 = some v1 ∧ w1.cell? a2 = some v2 ∧ w1.cell? a3 = some v3) ∧ Hid (Below Wb.heap.size Wb w1)) :
    ((w1.alloc ob).cell? a0 = some v0 ∧ (w1.alloc ob).cell? a1 = some v1 ∧ (w1.alloc ob).cell? a2 = some v2 ∧ (w1.alloc ob).cell? a3 = some v3) ∧ Hid (Below Wb.heap.size Wb (w1.alloc ob)) := four_next ((Below.refl _ _).alloc (Nat.le_refl _) _) h
set_option maxRecDepth 100000 in
set_option maxHeartbeats 8000000 in
theorem code6_any {B lo hi : Nat} {w : World} {v : Value} (l : Wd) (cs : List Value) (x : Instr) (hc : InstrC lo hi w cs x) (ho : Out B v l w) (hh : hi ≤ B) (hB : B ≤ w.heap.size) (hL : R05.Laid w) (hg : 0 < B)
    (hG : OpenP.instrG x) (hN : Few6.cInstr x ≤ 1000000) (hT : l.length + (joinV (codeL x)).length ≤ 1099511627776) :
    Calls Tryd.prog 20 #[v, .agg cs.toArray] w (Wr B l (codeL x) w) := by
  obtain ⟨u1, u2, u3, rfl, h1, h2, h3⟩ := hc
  obtain ⟨A1, k1, rfl⟩ := Row.form h1
  obtain ⟨A2, k2, rfl⟩ := Row.form h2
  obtain ⟨A3, k3, rfl⟩ := Row.form h3
  have hl1 : x.args.length ≤ 1000000 := by have := hN; unfold Few6.cInstr Few6.cArgs at this; omega
  have hl2 : x.frames.length ≤ 1000000 := by have := hN; unfold Few6.cInstr at this; omega
  have hl3 : x.objs.length ≤ 1000000 := by have := hN; unfold Few6.cInstr at this; omega
  obtain ⟨W, hW⟩ : ∃ W, w.alloc (.cells #[i64 x.op, str x.dst, str x.name, .slice A1 x.args.length k1, .slice A2 x.frames.length k2, .slice A3 x.objs.length k3] 72) = W := ⟨_, rfl⟩
  have HW := Lib.hid hW
  have HBX := Lib.hid (show Below w.heap.size w W by rw [← hW]; exact (Below.refl _ _).alloc (Nat.le_refl _) _)
  have HZ := Lib.hid (show W.heap.size = w.heap.size + 1 by rw [← hW]; simp)
  have HO := Lib.hid (show Mem.Own W w.heap.size 72 [i64 x.op, str x.dst, str x.name, .slice A1 x.args.length k1, .slice A2 x.frames.length k2, .slice A3 x.objs.length k3] by rw [← hW]; exact Mem.Own.made w _ _)
  have HV := Lib.hid (ho.below HBX.out)
  have HLW := Lib.hid (laid_keep hL (HBX.out.mono hB) hg)
  have H1 := Lib.hid h1
  have H2 := Lib.hid h2
  have H3 := Lib.hid h3
  have HT := Lib.hid hT
  have HN := Lib.hid hN
  have HG := Lib.hid hG
  clear h1 h2 h3 hW hT hN hG ho
  have QO := Lib.hid (R05.of_any x.op W HLW.out)
  obtain ⟨⟨fw, fd, fn, fl, fm⟩, hF⟩ : ∃ F, (formV x.op).1 = F := ⟨_, rfl⟩
  obtain ⟨fb, hFb⟩ : ∃ F, (formV x.op).2 = F := ⟨_, rfl⟩
  unfold R05.OfPost R05.fformC at QO
  rw [hF, hFb] at QO
  simp only at QO
  have HF := Lib.hid hF
  clear hF hFb
  have q0 := HO.out.cell 0
  simp only [List.getElem?_cons_zero] at q0
  go_enter Tryd.func20, Tryd.ntmps20
  go_wp2_with fail
  rw [HW.out]
  refine QO.out.mono ?_
  rintro e w1 ⟨rfl, hb1⟩
  have hz0 : W.heap.size = w.heap.size + 1 := HZ.out
  obtain ⟨W2, hW2⟩ : ∃ W2, w1.alloc (.cells #[str fw, .bool fd, .bool fn, i64 fl, i64 fm] 103) = W2 := ⟨_, rfl⟩
  have HB2 := Lib.hid (show Below w.heap.size w W2 by rw [← hW2]; exact (HBX.out.trans (hb1.mono (by omega))).alloc (by have := hb1.size; omega) _)
  have HS2 := Lib.hid (show W.heap.size < W2.heap.size by rw [← hW2]; have := hb1.size; simp; omega)
  have HOX := Lib.hid (show Mem.Own W2 w.heap.size 72 [i64 x.op, str x.dst, str x.name, .slice A1 x.args.length k1, .slice A2 x.frames.length k2, .slice A3 x.objs.length k3] by rw [← hW2]; exact (HO.out.below hb1 (by omega)).alloc _)
  have HOF := Lib.hid (show Mem.Own W2 w1.heap.size 103 [str fw, .bool fd, .bool fn, i64 fl, i64 fm] by rw [← hW2]; exact Mem.Own.made w1 _ _)
  have HV2 := Lib.hid (show Out B v l W2 by rw [← hW2]; exact (HV.out.below hb1).below ((Below.refl _ _).alloc (Nat.le_refl _) _))
  have hz1 : w1.heap.size < W2.heap.size := HOF.out.lt
  have hz2 : w.heap.size < W2.heap.size := HOX.out.lt
  have HW2 := Lib.hid hW2
  have HR0 := Lib.hid (show Below W2.heap.size W2 W2 from Below.refl _ _)
  have HE0 := Lib.hid (show W2.ownsRow W2.heap.size 9 1 (.slice none 0 0) ([] : List Wd).length (([] : List Wd).map str) from World.ownsRow_nil W2 W2.heap.size 9 1)
  have HKW2 := Lib.hid (KN.below HB2.out)
  clear hb1 hW2 q0
  go_upto_if 19 with fail
  rw [HW2.out]
  have q0 := (HOX.out.below HR0.out (by omega)).cell 0
  have q1 := (HOX.out.below HR0.out (by omega)).cell 1
  have q2 := (HOX.out.below HR0.out (by omega)).cell 2
  have q3 := (HOX.out.below HR0.out (by omega)).cell 3
  have q4 := (HOX.out.below HR0.out (by omega)).cell 4
  have q5 := (HOX.out.below HR0.out (by omega)).cell 5
  simp only [List.getElem?_cons_zero, List.getElem?_cons_succ] at q0 q1 q2 q3 q4 q5
  go_cut [7] (fun lv wx => Hid (wx.ownsRow W2.heap.size 9 1 lv (dstW x).length ((dstW x).map str)) ∧ Hid (Below W2.heap.size W2 wx))
  case first =>
    cases fd with
    | true =>
      have HD := Lib.hid (show dstW x = [] ++ [x.dst, [61]] by unfold dstW; rw [HF.out]; rfl)
      go_wp2_with (at_builtin; go_loud (refine words_push rfl _ _ 41 rfl Tryd.underlying41 str_info _ [] rfl HE0.out [x.dst, [61]] _ rfl _ _ rfl rfl rfl (by simp) (Nat.le_refl _) ?_); intro v3 w3 hown3 hg3; have HL3 := Lib.hid (show w3.ownsRow W2.heap.size 9 1 v3 (dstW x).length ((dstW x).map str) by rw [HD.out]; exact hown3); have HB3 := Lib.hid (HR0.out.grown hg3 (Nat.le_refl _) (fun k hk => by cases hk)); clear hown3 hg3)
      go_meet
      case rel => exact ⟨HL3, HB3⟩
    | false =>
      have HD := Lib.hid (show dstW x = [] by unfold dstW; rw [HF.out]; rfl)
      go_wp2_with fail
      go_meet
      case rel => exact ⟨Lib.hid (by rw [HD.out]; exact HE0.out), HR0⟩
  case rest =>
  obtain ⟨HL3, HB3⟩ := hcut
  have HS3 := Lib.hid HB3.out.size
  have hs3 := HB3.out.size
  clear q0 q1 q2 q3 q4 q5
  have z0 := (HOF.out.below HB3.out (by omega)).cell 0
  have z1 := (HOF.out.below HB3.out (by omega)).cell 1
  have z2 := (HOF.out.below HB3.out (by omega)).cell 2
  simp only [List.getElem?_cons_zero, List.getElem?_cons_succ] at z0 z1 z2
  go_upto_region 6 with (at_builtin; refine words_push rfl _ _ 41 rfl Tryd.underlying41 str_info _ (dstW x) rfl HL3.out [fw] _ rfl _ _ rfl rfl rfl (by have := dst_len x; simp; omega) HS3.out ?_; intro v5 w5 hown5 hg5; have HL5 := Lib.hid hown5; have HB5 := Lib.hid (HB3.out.grown hg5 HS3.out (fun k hk => (HL3.out.lt k hk).1)); have HS5 := Lib.hid (Nat.le_trans HS3.out hg5.size); clear hown5 hg5)
  have HWS := Lib.hid (show ∃ ws1, dstW x ++ [fw] = ws1 from ⟨_, rfl⟩)
  have hs5 := HB5.out.size
  clear z0 z1 z2
  have q0 := (HOX.out.below HB5.out (by omega)).cell 0
  have q1 := (HOX.out.below HB5.out (by omega)).cell 1
  have q2 := (HOX.out.below HB5.out (by omega)).cell 2
  have q3 := (HOX.out.below HB5.out (by omega)).cell 3
  have q4 := (HOX.out.below HB5.out (by omega)).cell 4
  have q5 := (HOX.out.below HB5.out (by omega)).cell 5
  simp only [List.getElem?_cons_zero, List.getElem?_cons_succ] at q0 q1 q2 q3 q4 q5
  go_cut [43] (fun tv wx => tv = .bool (condW x) ∧ wx = w5)
  case first =>
    by_cases c1 : x.op = 26 <;> by_cases c2 : x.op = 27 <;> by_cases c3 : 0 < x.args.length
    all_goals (
      try omega)
    all_goals (
      have e1 : (x.op == (26 : Int)) = decide (x.op = 26) := by by_cases h : x.op = 26 <;> simp [h]
      have e2 : (x.op == (27 : Int)) = decide (x.op = 27) := by by_cases h : x.op = 27 <;> simp [h]
      have e3 : decide ((0 : Int) < (x.args.length : Int)) = decide (0 < x.args.length) := by by_cases h : 0 < x.args.length <;> simp [h]
      have e4 : condW x = ((decide (x.op = 26) || decide (x.op = 27)) && decide (0 < x.args.length)) := by unfold condW; rw [e1, e2]
      simp only [c1, c2, c3, decide_true, decide_false] at e1 e2 e3 e4
      go_wp2_with fail
      go_meet
      case rel => exact ⟨by rw [e4]; rfl, rfl⟩)
  case rest =>
  obtain ⟨hb43, rfl⟩ := hcut
  subst hb43
  go_upto_if 43 with fail
  go_cut [7] (fun lv wx => Hid (wx.ownsRow W2.heap.size 9 1 lv (headL x).length ((headL x).map str)) ∧ Hid (Below W2.heap.size W2 wx))
  case first =>
    have HCW := Lib.hid (show condW x = true ↔ (x.op = 26 ∨ x.op = 27) ∧ 0 < x.args.length by unfold condW; simp)
    obtain ⟨cw, hcw⟩ : ∃ cw, condW x = cw := ⟨_, rfl⟩
    rw [hcw]
    cases cw with
    | true =>
      have hcond := HCW.out.1 hcw
      have hcap : x.args.length ≤ k1 := Row.cap H1.out
      have f1 : (1 : Int) ≤ (k1 : Int) := by omega
      have f2 : (1 : Int) ≤ (x.args.length : Int) := by omega
      have hbw : Below w.heap.size w wc := HB2.out.trans (HB5.out.mono (by omega))
      have HA := Lib.hid (Args.move (Still.of_below (hbw.mono (Nat.le_trans hh hB))) H1.out)
      have HQ1 := Lib.hid (args6_any (B := W2.heap.size) (dstW x ++ [fw]) (x.args.take 1) HL5.out (row_pre HA.out (by omega)) (by omega) HS5.out (fun a ha => ⟨(HG.out.2.1 a (List.mem_of_mem_take ha)).1.2, (HG.out.2.1 a (List.mem_of_mem_take ha)).2⟩) (by have := dst_len x; simp; omega))
      clear hcond hbw
      go_wp2_with fail
      refine HQ1.out.mono ?_
      rintro e w6 ⟨v6, rfl, h6, hb6⟩
      have HL6 := Lib.hid h6
      have HB6 := Lib.hid (HB5.out.trans hb6)
      have HS6 := Lib.hid (Nat.le_trans HS5.out hb6.size)
      clear h6 hb6 q0 q1 q2 q3 q4 q5
      have q2 := (HOX.out.below HB6.out (by omega)).cell 2
      have q3 := (HOX.out.below HB6.out (by omega)).cell 3
      simp only [List.getElem?_cons_zero, List.getElem?_cons_succ] at q2 q3
      have HQ2 := Lib.hid (fun (w7 : World) (v7 : Value) (HL7 : w7.ownsRow W2.heap.size 9 1 v7 (dstW x ++ [fw] ++ argsL (x.args.take 1) ++ [x.name]).length ((dstW x ++ [fw] ++ argsL (x.args.take 1) ++ [x.name]).map str)) (HB7 : Below W2.heap.size W2 w7) (va : Value) (hva : Args lo hi w va (x.args.drop 1)) => args6_any (B := W2.heap.size) (dstW x ++ [fw] ++ argsL (x.args.take 1) ++ [x.name]) (x.args.drop 1) HL7 (Args.move (Still.of_below ((HB2.out.trans (HB7.mono (by omega))).mono (Nat.le_trans hh hB))) hva) (by omega) HB7.size (fun a ha => ⟨(HG.out.2.1 a (List.mem_of_mem_drop ha)).1.2, (HG.out.2.1 a (List.mem_of_mem_drop ha)).2⟩) (by have := dst_len x; unfold argsL; simp; omega))
      by_cases hk1 : k1 - 1 = 0
      · have HDb := Lib.hid (show Args lo hi w (.slice A1 (x.args.length - 1) 0) (x.args.drop 1) from row_none (by omega) (by simp; omega))
        go_wp2_with (at_builtin; refine words_push rfl _ _ 41 rfl Tryd.underlying41 str_info _ (dstW x ++ [fw] ++ argsL (x.args.take 1)) rfl HL6.out [x.name] _ rfl _ _ rfl rfl rfl (by have := dst_len x; unfold argsL; simp; omega) HS6.out ?_; intro v7 w7 hown7 hg7; have HL7 := Lib.hid hown7; have HB7 := Lib.hid (HB6.out.grown hg7 HS6.out (fun k hk => (HL6.out.lt k hk).1)); have HS7 := Lib.hid (Nat.le_trans HS6.out hg7.size); clear hown7 hg7; have q3 := (HOX.out.below HB7.out (by omega)).cell 3; simp only [List.getElem?_cons_zero, List.getElem?_cons_succ] at q3)
        all_goals (
          with_reducible refine (HQ2.out _ _ HL7.out HB7.out _ HDb.out).mono ?_
          rintro e w8 ⟨v8, rfl, h8, hb8⟩
          have HL8 := Lib.hid h8
          have HB8 := Lib.hid (HB7.out.trans hb8)
          clear h8 hb8
          go_wp2_with fail
          go_meet
          case rel => exact ⟨Lib.hid (by rw [head_cond HF.out hcw]; exact HL8.out), HB8⟩)
      · have HDa := Lib.hid (show Args lo hi w (.slice (Option.map (fun x => ({ block := x.block, off := x.off + 3 } : Addr)) A1) (x.args.length - 1) (k1 - 1)) (x.args.drop 1) from row_drop1 H1.out (by omega))
        go_wp2_with (at_builtin; refine words_push rfl _ _ 41 rfl Tryd.underlying41 str_info _ (dstW x ++ [fw] ++ argsL (x.args.take 1)) rfl HL6.out [x.name] _ rfl _ _ rfl rfl rfl (by have := dst_len x; unfold argsL; simp; omega) HS6.out ?_; intro v7 w7 hown7 hg7; have HL7 := Lib.hid hown7; have HB7 := Lib.hid (HB6.out.grown hg7 HS6.out (fun k hk => (HL6.out.lt k hk).1)); have HS7 := Lib.hid (Nat.le_trans HS6.out hg7.size); clear hown7 hg7; have q3 := (HOX.out.below HB7.out (by omega)).cell 3; simp only [List.getElem?_cons_zero, List.getElem?_cons_succ] at q3)
        all_goals (
          with_reducible refine (HQ2.out _ _ HL7.out HB7.out _ HDa.out).mono ?_
          rintro e w8 ⟨v8, rfl, h8, hb8⟩
          have HL8 := Lib.hid h8
          have HB8 := Lib.hid (HB7.out.trans hb8)
          clear h8 hb8
          go_wp2_with fail
          go_meet
          case rel => exact ⟨Lib.hid (by rw [head_cond HF.out hcw]; exact HL8.out), HB8⟩)
    | false =>
      have z0 := (HOF.out.below HB5.out (by omega)).cell 0
      have z1 := (HOF.out.below HB5.out (by omega)).cell 1
      have z2 := (HOF.out.below HB5.out (by omega)).cell 2
      simp only [List.getElem?_cons_zero, List.getElem?_cons_succ] at z0 z1 z2
      have hbw : Below w.heap.size w wc := HB2.out.trans (HB5.out.mono (by omega))
      have HA := Lib.hid (Args.move (Still.of_below (hbw.mono (Nat.le_trans hh hB))) H1.out)
      have HGA := Lib.hid (show ∀ a ∈ x.args, NumM.In a.n ∧ a.s.length ≤ 140737488351232 from fun a ha => ⟨(HG.out.2.1 a ha).1.2, (HG.out.2.1 a ha).2⟩)
      clear hbw
      cases fn with
      | true =>
        have HQ1 := Lib.hid (fun (w7 : World) (v7 : Value) (HL7 : w7.ownsRow W2.heap.size 9 1 v7 (dstW x ++ [fw] ++ [x.name]).length ((dstW x ++ [fw] ++ [x.name]).map str)) (HB7 : Below W2.heap.size W2 w7) => args6_any (B := W2.heap.size) (dstW x ++ [fw] ++ [x.name]) x.args HL7 (Args.move (Still.of_below ((HB2.out.trans (HB7.mono (by omega))).mono (Nat.le_trans hh hB))) H1.out) (by omega) HB7.size HGA.out (by have := dst_len x; simp; omega))
        go_wp2_with (first | (go_at_call 44; refine (HQ1.out _ _ HL7.out HB7.out).mono ?_; rintro e w8 ⟨v8, rfl, h8, hb8⟩; have HL8 := Lib.hid h8; have HB8 := Lib.hid (HB7.out.trans hb8); clear h8 hb8) | (at_builtin; refine words_push rfl _ _ 41 rfl Tryd.underlying41 str_info _ (dstW x ++ [fw]) rfl HL5.out [x.name] _ rfl _ _ rfl rfl rfl (by have := dst_len x; simp; omega) HS5.out ?_; intro v7 w7 hown7 hg7; have HL7 := Lib.hid hown7; have HB7 := Lib.hid (HB5.out.grown hg7 HS5.out (fun k hk => (HL5.out.lt k hk).1)); have HS7 := Lib.hid (Nat.le_trans HS5.out hg7.size); clear hown7 hg7; have q3 := (HOX.out.below HB7.out (by omega)).cell 3; simp only [List.getElem?_cons_zero, List.getElem?_cons_succ] at q3))
        go_meet
        case rel => exact ⟨Lib.hid (by rw [head_named HF.out hcw rfl]; exact HL8.out), HB8⟩
      | false =>
        have HQ1 := Lib.hid (args6_any (B := W2.heap.size) (dstW x ++ [fw]) x.args HL5.out HA.out (by omega) HS5.out HGA.out (by have := dst_len x; simp; omega))
        go_wp2_with (first | (go_at_call 44; refine HQ1.out.mono ?_; rintro e w8 ⟨v8, rfl, h8, hb8⟩; have HL8 := Lib.hid h8; have HB8 := Lib.hid (HB5.out.trans hb8); clear h8 hb8))
        go_meet
        case rel => exact ⟨Lib.hid (by rw [head_plain HF.out hcw rfl]; exact HL8.out), HB8⟩
  case rest =>
  obtain ⟨HL9, HB9⟩ := hcut
  have hs9 := HB9.out.size
  have HBw9 := Lib.hid (show Below B w wc from (HB2.out.trans (HB9.out.mono (by omega))).mono hB)
  have HKW := Lib.hid (show KN w wc from KN.trans HKW2.out (KN.below HB9.out))
  have HV9 := Lib.hid (HV2.out.keep HB9.out fun k hk => (World.ownsRow.lt HV2.out k hk).2)
  have HOX9 := Lib.hid (HOX.out.below HB9.out hz2)
  have HTT := Lib.hid (show (joinV (codeL x)).length = (joinV [headL x]).length + (joinV (x.frames.map frameW)).length + (joinV (x.objs.map objW)).length by unfold codeL; rw [joinV_app, joinV_app, List.length_append, List.length_append])
  have HTF := Lib.hid (show (l ++ joinV [headL x]).length + (joinV (x.frames.map frameW)).length ≤ 1099511627776 by rw [List.length_append]; have := HT.out; have := HTT.out; omega)
  have HP9 := Lib.hid (put6_any (w := wc) l (headL x) HV9.out HL9.out (by omega) (by have := HT.out; have := HTT.out; omega) (Nat.le_trans (head_len x) (by omega)))
  clear HL3 HB3 HS3 hs3 HL5 HB5 HS5 hs5 HWS q0 q1 q2 q3 q4 q5 HB9 HR0 HE0 HW2 HW HV HLW HO HZ
  go_wp2_with fail
  refine HP9.out.mono ?_
  rintro e w10 ⟨v10, rfl, h10, hb10, hk10⟩
  have HOX10 := Lib.hid (hk10.own HOX9.out (by decide))
  have HB10 := Lib.hid (HBw9.out.trans hb10)
  have HS10 := Lib.hid (show B ≤ w10.heap.size from Nat.le_trans (show B ≤ wc.heap.size by omega) hb10.size)
  have HV10 := Lib.hid (show Out B v10 (l ++ joinV [headL x] ++ joinV ((x.frames.map frameW).take 0)) w10 by rw [List.take_zero]; show Out B v10 (l ++ joinV [headL x] ++ []) w10; rw [List.append_nil]; exact h10)
  have HK10 := Lib.hid (show KN w w10 from (HKW.out.trans hk10))
  clear h10 hb10 hk10 HP9
  have q4 := HOX10.out.cell 4
  simp only [List.getElem?_cons_zero, List.getElem?_cons_succ] at q4
  go_wp2_with fail
  go_loopw [0, 8] (fun ov iv wr => ∃ q : Nat, q ≤ x.frames.length ∧ iv = .int .i64 q ∧ Hid (Out B ov (l ++ joinV [headL x] ++ joinV ((x.frames.map frameW).take q)) wr) ∧ Hid (Below B w wr) ∧ Hid (Mem.Own wr w.heap.size 72 [i64 x.op, str x.dst, str x.name, .slice A1 x.args.length k1, .slice A2 x.frames.length k2, .slice A3 x.objs.length k3]) ∧ Hid (B ≤ wr.heap.size) ∧ Hid (KN w wr)) (fun _ iv _ => x.frames.length - (intOf iv).toNat)
  case atStart => exact ⟨0, Nat.zero_le _, rfl, HV10, HB10, HOX10, HS10, HK10⟩
  case round =>
  clear HV10 HB10 HOX10 HS10 HK10 q4
  obtain ⟨q, hq, rfl, HVr, HBr, HOr, HSr, HKr⟩ := hrel
  obtain ⟨Wf, hWf⟩ : ∃ Wf, Wf = wr := ⟨_, rfl⟩
  subst hWf
  have hzf : w.heap.size < Wf.heap.size := HOr.out.lt
  have q4 := HOr.out.cell 4
  simp only [List.getElem?_cons_zero, List.getElem?_cons_succ] at q4
  by_cases hqt : q < x.frames.length
  · obtain ⟨y, hy⟩ : ∃ y, x.frames[q]? = some y := ⟨_, List.getElem?_eq_getElem hqt⟩
    obtain ⟨b, o, rfl, hb, cs, hcl, hcs, u, rfl, hbi⟩ := row_at6 H2.out hy
    obtain ⟨n0, n1, n2, n3⟩ := at4 (cells_later hcs (HBr.out.mono hh) hb)
    obtain ⟨A4, k4, rfl⟩ := Row.form hbi
    have HBI := Lib.hid hbi
    have HY := Lib.hid hy
    have HCS := Lib.hid hcs
    have hvl : y.vars.length ≤ 1000000 := vars_le (List.mem_of_getElem? hy) HN.out
    have HGY := Lib.hid (HG.out.2.2.1 y (List.mem_of_getElem? hy))
    have QN := Lib.hid (fun (W' : World) => R01.put_any y.pos W' HGY.out.2.1)
    have HFY := Lib.hid (show (x.frames.map frameW)[q]? = some (frameW y) by rw [List.getElem?_map, hy]; rfl)
    clear hy hcs hbi
    go_upto_region 17 with fail
    go_cut [9] (fun wv wx => Hid (wx.ownsRow Wf.heap.size 9 1 wv ([[97, 116], y.func, y.block, NumM.dec y.pos] : List Wd).length (([[97, 116], y.func, y.block, NumM.dec y.pos] : List Wd).map str)) ∧ Hid (Below Wf.heap.size Wf wx))
    case first =>
      go_region_held3 (fun w' => (w'.cell? ⟨w.heap.size, 4, none⟩ = some (.slice (some ⟨b, o, none⟩) x.frames.length k2) ∧ w'.cell? ⟨b, o + q * 4, none⟩ = some (str y.func) ∧ w'.cell? ⟨b, o + q * 4 + 1, none⟩ = some (str y.block) ∧ w'.cell? ⟨b, o + q * 4 + 2, none⟩ = some (i64 y.pos)) ∧ Hid (Below Wf.heap.size Wf w'))
        (first | exact ⟨⟨q4, n0, n1, n2⟩, Lib.hid (Below.refl _ _).drew⟩ | exact ⟨⟨q4, n0, n1, n2⟩, Lib.hid (Below.refl _ _)⟩ | exact four_next hb (by assumption) | exact four_alloc _ (by assumption))
        (first | (go_at_call 18; (with_reducible refine (QN.out _).mono ?_); rintro e w' ⟨rfl, hb⟩))
      rename_i hHeld
      have HB9 := hHeld.2
      clear hHeld
      have hz9 : Wf.heap.size ≤ w'.heap.size := hb.size
      have HR9 := Lib.hid (lit_row [[97, 116], y.func, y.block, NumM.dec y.pos] Wf.heap.size _ _ rfl (rfl : w'.alloc (.cells #[str [97, 116], str y.func, str y.block, str (NumM.dec y.pos)] 9) = _) rfl hz9 (by simp))
      go_wp2_with fail
      go_meet
      case rel => exact ⟨HR9, HB9⟩
    case rest =>
    obtain ⟨HR9, HB9⟩ := hcut
    have HF0 := Lib.hid (show wc.ownsRow Wf.heap.size 9 1 u9 ([[97, 116], y.func, y.block, NumM.dec y.pos] ++ (y.vars.take 0).flatMap bindW).length (([[97, 116], y.func, y.block, NumM.dec y.pos] ++ (y.vars.take 0).flatMap bindW).map str) from HR9.out)
    clear q4 n0 n1 n2 n3
    have q4 := (HOr.out.below HB9.out hzf).cell 4
    have n3 := (at4 (cells_later HCS.out ((HBr.out.trans (HB9.out.mono HSr.out)).mono hh) hb)).2.2.2
    simp only [List.getElem?_cons_zero, List.getElem?_cons_succ] at q4
    go_wp2_with fail
    go_loopw [9, 10] (fun wv kv wr => ∃ k : Nat, k ≤ y.vars.length ∧ kv = .int .i64 k ∧ Hid (wr.ownsRow Wf.heap.size 9 1 wv ([[97, 116], y.func, y.block, NumM.dec y.pos] ++ (y.vars.take k).flatMap bindW).length (([[97, 116], y.func, y.block, NumM.dec y.pos] ++ (y.vars.take k).flatMap bindW).map str)) ∧ Hid (Below Wf.heap.size Wf wr)) (fun _ kv _ => y.vars.length - (intOf kv).toNat)
    case atStart => exact ⟨0, Nat.zero_le _, rfl, HF0, HB9⟩
    case round =>
    clear HF0 HB9 HR9 q4 n3
    obtain ⟨k, hk, rfl, HFk, HBk⟩ := hrel
    have HBw := Lib.hid (HBr.out.trans (HBk.out.mono HSr.out))
    have hsk : Wf.heap.size ≤ wr.heap.size := HBk.out.size
    have q4 := (HOr.out.below HBk.out hzf).cell 4
    simp only [List.getElem?_cons_zero, List.getElem?_cons_succ] at q4
    have n3 := (at4 (cells_later HCS.out (HBw.out.mono hh) hb)).2.2.2
    by_cases hkt : k < y.vars.length
    · obtain ⟨z, hz⟩ : ∃ z, y.vars[k]? = some z := ⟨_, List.getElem?_eq_getElem hkt⟩
      obtain ⟨b4, o4, rfl, hb4, cs4, hcl4, hcs4, rfl⟩ := row_at6 HBI.out hz
      obtain ⟨p0, p1, p2, p3⟩ := at4 (cells_later hcs4 (HBw.out.mono hh) hb4)
      have HGZ := Lib.hid (HGY.out.2.2 z (List.mem_of_getElem? hz))
      have QA := Lib.hid (fun (W' : World) => R03.put_at z.a.kind ⟨z.a.s.toArray⟩ z.a.n (argW z.a) HGZ.out.2.1.2 (by have := HGZ.out.2.2; show z.a.s.toArray.size ≤ _; simp; unfold OpenP.strG at this; omega) rfl W')
      have HST := Lib.hid (show [[97, 116], y.func, y.block, NumM.dec y.pos] ++ (y.vars.take (k + 1)).flatMap bindW = [[97, 116], y.func, y.block, NumM.dec y.pos] ++ (y.vars.take k).flatMap bindW ++ [z.name, argW z.a] by
        rw [flat_next bindW hz, List.append_assoc]; rfl)
      have HC4 := Lib.hid hcs4
      have hfl := flat_len (y.vars.take k)
      rw [List.length_take] at hfl
      have HLF := Lib.hid (show ([[97, 116], y.func, y.block, NumM.dec y.pos] ++ (y.vars.take k).flatMap bindW).length + [z.name, argW z.a].length ≤ 2000000000 by rw [List.length_append, flat_len, List.length_take]; simp; omega)
      clear hz hcs4
      go_upto_region 21 with fail
      have QS := Lib.hid (fun (W' : World) (h : Below Wf.heap.size Wf W') => (show W'.cell? ⟨w.heap.size, 4, none⟩ = some (.slice (some ⟨b, o, none⟩) x.frames.length k2) ∧ W'.cell? ⟨b, o + q * 4 + 3, none⟩ = some (.slice (some ⟨b4, o4, none⟩) y.vars.length k4) ∧ W'.cell? ⟨b4, o4 + k * 4, none⟩ = some (str z.name) ∧ W'.cell? ⟨b4, o4 + k * 4 + 1, none⟩ = some (i64 z.a.kind) ∧ W'.cell? ⟨b4, o4 + k * 4 + 2, none⟩ = some (str z.a.s) ∧ W'.cell? ⟨b4, o4 + k * 4 + 3, none⟩ = some (i64 z.a.n) from ⟨(HOr.out.below h hzf).cell 4, (at4 (cells_later HCS.out ((HBr.out.trans (h.mono HSr.out)).mono hh) hb)).2.2.2, at4 (cells_later HC4.out ((HBr.out.trans (h.mono HSr.out)).mono hh) hb4)⟩))
      go_region_held3 (fun w' => (w'.cell? ⟨w.heap.size, 4, none⟩ = some (.slice (some ⟨b, o, none⟩) x.frames.length k2) ∧ w'.cell? ⟨b, o + q * 4 + 3, none⟩ = some (.slice (some ⟨b4, o4, none⟩) y.vars.length k4) ∧ w'.cell? ⟨b4, o4 + k * 4, none⟩ = some (str z.name) ∧ w'.cell? ⟨b4, o4 + k * 4 + 1, none⟩ = some (i64 z.a.kind) ∧ w'.cell? ⟨b4, o4 + k * 4 + 2, none⟩ = some (str z.a.s) ∧ w'.cell? ⟨b4, o4 + k * 4 + 3, none⟩ = some (i64 z.a.n)) ∧ Hid (Below Wf.heap.size Wf w'))
        (first | exact ⟨QS.out _ HBk.out.drew, Lib.hid HBk.out.drew⟩ | exact ⟨QS.out _ HBk.out, HBk⟩ | exact ⟨QS.out _ (HBk.out.drew.trans (hb6.mono hsk)), Lib.hid (HBk.out.drew.trans (hb6.mono hsk))⟩ | exact ⟨QS.out _ ((HBk.out.drew.trans (hb6.mono hsk)).alloc (Nat.le_trans hsk hb6.size) _), Lib.hid ((HBk.out.drew.trans (hb6.mono hsk)).alloc (Nat.le_trans hsk hb6.size) _)⟩ | exact ⟨QS.out _ ((HBk.out.drew.trans (hb6.mono hsk)).grown hg9 (Nat.le_trans hsk hb6.size) (fun k hk => ((row_later HFk.out.drew hb6).lt k hk).1)), Lib.hid ((HBk.out.drew.trans (hb6.mono hsk)).grown hg9 (Nat.le_trans hsk hb6.size) (fun k hk => ((row_later HFk.out.drew hb6).lt k hk).1))⟩)
        (first | (go_at_call 19; (with_reducible refine (QA.out _).mono ?_); rintro e w6 ⟨rfl, hb6⟩) | (refine step_words rfl _ _ 41 rfl Tryd.underlying41 str_info _ _ rfl (row_later HFk.out.drew hb6) [z.name, argW z.a] _ rfl _ _ rfl rfl rfl HLF.out (Nat.le_trans hsk hb6.size) ?_; intro v9 w9 hown9 hg9))
      have HF9 := Lib.hid (show w9.ownsRow Wf.heap.size 9 1 v9 ([[97, 116], y.func, y.block, NumM.dec y.pos] ++ (y.vars.take (k + 1)).flatMap bindW).length (([[97, 116], y.func, y.block, NumM.dec y.pos] ++ (y.vars.take (k + 1)).flatMap bindW).map str) by rw [HST.out]; exact hown9)
      have HB9 := Lib.hid ((HBk.out.drew.trans (hb6.mono hsk)).grown hg9 (Nat.le_trans hsk hb6.size) (fun k hk => ((row_later HFk.out.drew hb6).lt k hk).1))
      go_wp2_with fail
      go_roundw
      case rel => exact ⟨k + 1, by omega, by go_num, HF9, HB9⟩
      case measure => simp [intOf]; omega
    · obtain rfl : k = y.vars.length := by omega
      have hwf := HFk.out
      rw [List.take_length] at hwf
      have HWF := Lib.hid hwf
      have HVw := Lib.hid (HVr.out.below HBk.out)
      have HOw := Lib.hid (HOr.out.below HBk.out hzf)
      have HKw := Lib.hid (HKr.out.trans (KN.below HBk.out))
      have hfl := flat_len y.vars
      have HP := Lib.hid (put6_any (w := wr) _ (frameW y) HVw.out HWF.out (Nat.le_trans HSr.out hsk) (lines_fit HFY.out HTF.out) (by show ([[97, 116], y.func, y.block, NumM.dec y.pos] ++ y.vars.flatMap bindW).length ≤ _; rw [List.length_append, hfl]; simp; omega))
      clear hwf HFk HWF
      go_wp2_with fail
      refine HP.out.mono ?_
      rintro e w7 ⟨v7, rfl, h7, hb7, hk7⟩
      have HV7 := Lib.hid (show Out B v7 (l ++ joinV [headL x] ++ joinV ((x.frames.map frameW).take (q + 1))) w7 by rw [lines_step HFY.out]; exact h7)
      have HB7 := Lib.hid (HBw.out.trans hb7)
      have HO7 := Lib.hid (hk7.own HOw.out (by decide))
      have HS7 := Lib.hid (show B ≤ w7.heap.size from Nat.le_trans (Nat.le_trans HSr.out hsk) hb7.size)
      have HK7 := Lib.hid (HKw.out.trans hk7)
      clear h7 hb7 hk7 HP q4 n3
      go_wp2_with fail
      first
        | exact ⟨⟨q + 1, by omega, by go_num, HV7, HB7, HO7, HS7, HK7⟩, by simp [intOf]; omega⟩
        | (go_roundw
           case rel => exact ⟨q + 1, by omega, by go_num, HV7, HB7, HO7, HS7, HK7⟩
           case measure => simp [intOf]; omega)
        | (go_roundw
           case rel => (repeat apply Exists.intro); exact ⟨⟨q + 1, by omega, by go_num, HV7, HB7, HO7, HS7, HK7⟩, rfl⟩
           case measure => simp [intOf]; omega)
  · obtain rfl : q = x.frames.length := by omega
    have hv := HVr.out
    rw [List.take_of_length_le (by simp)] at hv
    obtain ⟨Lb, hLb⟩ : ∃ Lb, l ++ joinV [headL x] ++ joinV (x.frames.map frameW) = Lb := ⟨_, rfl⟩
    have HTB := Lib.hid (show Lb.length + (joinV (x.objs.map objW)).length ≤ 1099511627776 by rw [← hLb, List.length_append, List.length_append]; have := HT.out; have := HTT.out; omega)
    have HLE := Lib.hid (show l ++ joinV (codeL x) = Lb ++ joinV (x.objs.map objW) by rw [← hLb]; unfold codeL; rw [joinV_app, joinV_app, List.append_assoc, List.append_assoc, List.append_assoc])
    rw [hLb] at hv
    have HV0 := Lib.hid (show Out B _ (Lb ++ joinV ((x.objs.map objW).take 0)) Wf by rw [List.take_zero]; show Out B _ (Lb ++ []) Wf; rw [List.append_nil]; exact hv)
    clear hv hLb HVr hqt hq
    have q5 := HOr.out.cell 5
    simp only [List.getElem?_cons_zero, List.getElem?_cons_succ] at q5
    go_wp2_with fail
    go_loopw [0, 11] (fun ov iv wr => ∃ q : Nat, q ≤ x.objs.length ∧ iv = .int .i64 q ∧ Hid (Out B ov (Lb ++ joinV ((x.objs.map objW).take q)) wr) ∧ Hid (Below B w wr) ∧ Hid (Mem.Own wr w.heap.size 72 [i64 x.op, str x.dst, str x.name, .slice A1 x.args.length k1, .slice A2 x.frames.length k2, .slice A3 x.objs.length k3]) ∧ Hid (B ≤ wr.heap.size) ∧ Hid (KN w wr)) (fun _ iv _ => x.objs.length - (intOf iv).toNat)
    case atStart => exact ⟨0, Nat.zero_le _, rfl, HV0, HBr, HOr, HSr, HKr⟩
    case round =>
    clear HV0 HBr HOr HSr HKr q4 q5
    obtain ⟨q, hq, rfl, HVr, HBr, HOr, HSr, HKr⟩ := hrel
    have hzf : w.heap.size < wr.heap.size := HOr.out.lt
    have q5 := HOr.out.cell 5
    simp only [List.getElem?_cons_zero, List.getElem?_cons_succ] at q5
    by_cases hqt : q < x.objs.length
    · obtain ⟨y, hy⟩ : ∃ y, x.objs[q]? = some y := ⟨_, List.getElem?_eq_getElem hqt⟩
      obtain ⟨b, o, rfl, hb, cs, hcl, hcs, u, rfl, hbi⟩ := row_at6 H3.out hy
      obtain ⟨n0, n1⟩ := at2 (cells_later hcs (HBr.out.mono hh) hb)
      obtain ⟨A4, k4, rfl⟩ := Row.form hbi
      have HBI := Lib.hid hbi
      have hbw : b < wr.heap.size := by have := HSr.out; omega
      have hvl : y.vals.length ≤ 1000000 := vals_le (List.mem_of_getElem? hy) HN.out
      have HGY := Lib.hid (HG.out.2.2.2 y (List.mem_of_getElem? hy))
      have HOY := Lib.hid (show (x.objs.map objW)[q]? = some (objW y) by rw [List.getElem?_map, hy]; rfl)
      have QA := Lib.hid (fun (W5 : World) (hW5 : (wr.alloc (.cells #[.string ⟨#[111, 98, 106]⟩, str y.cls] 9)).drew = W5) => have hb5 : Below wr.heap.size wr W5 := by rw [← hW5]; exact ((Below.refl _ _).alloc (Nat.le_refl _) _).drew
        args6_any (B := wr.heap.size) (w := W5) (v := .slice (some ⟨wr.heap.size, 0, none⟩) 2 2) [[111, 98, 106], y.cls] y.vals (lit_row_d (w' := W5) [[111, 98, 106], y.cls] wr.heap.size wr.heap.size _ rfl hW5 rfl (Nat.le_refl _) (by simp)) (Args.move (Still.of_below ((HBr.out.trans (hb5.mono HSr.out)).mono hh)) HBI.out) (by omega) hb5.size (fun a ha => ⟨(HGY.out.2 a ha).1.2, (HGY.out.2 a ha).2⟩) (by simp; omega))
      have QP := Lib.hid (fun (W6 : World) (v6 : Value) (hb6 : Below wr.heap.size wr W6) (h6 : W6.ownsRow wr.heap.size 9 1 v6 (objW y).length ((objW y).map str)) => put6_any (w := W6) _ (objW y) (HVr.out.below hb6) h6 (Nat.le_trans HSr.out hb6.size) (lines_fit HOY.out HTB.out) (by unfold objW argsL; simp; omega))
      clear hy hcs hbi
      go_wp2_with fail
      go_region_law (first
        | (go_simp; go_at_call 44; (refine (QA.out _ rfl).mono ?_); rintro e w6 ⟨v6, rfl, h6, hb6⟩; have HB6 := Lib.hid (show Below wr.heap.size wr w6 from (((Below.refl wr.heap.size wr).alloc (Nat.le_refl _) _).drew).trans hb6))
        | (go_simp; go_at_call 16; (refine (QP.out _ _ HB6.out h6).mono ?_); rintro e w7 ⟨v7, rfl, h7, hb7, hk7⟩))
      all_goals (
        have HV7 := Lib.hid (show Out B v7 (Lb ++ joinV ((x.objs.map objW).take (q + 1))) w7 by rw [lines_step HOY.out]; exact h7)
        have HB7 := Lib.hid ((HBr.out.trans (HB6.out.mono HSr.out)).trans hb7)
        have HO7 := Lib.hid (hk7.own (HOr.out.below HB6.out hzf) (by decide))
        have HS7 := Lib.hid (show B ≤ w7.heap.size from Nat.le_trans (Nat.le_trans HSr.out HB6.out.size) hb7.size)
        have HK7 := Lib.hid ((HKr.out.trans (KN.below HB6.out)).trans hk7)
        clear h6 hb6 h7 hb7 hk7 QA QP n0 n1
        go_wp2_with fail
        first
          | exact ⟨⟨q + 1, by omega, by go_num, HV7, HB7, HO7, HS7, HK7⟩, by simp [intOf]; omega⟩
          | (go_roundw
             case rel => exact ⟨q + 1, by omega, by go_num, HV7, HB7, HO7, HS7, HK7⟩
             case measure => simp [intOf]; omega))
    · obtain rfl : q = x.objs.length := by omega
      go_wp2_with fail
      go_ret
      exact ⟨_, rfl, by rw [HLE.out, ← List.take_of_length_le (show (x.objs.map objW).length ≤ x.objs.length by simp)]; exact HVr.out, HBr.out, HKr.out⟩
end Go.Proofs.YtdgmdpphimenjaaDoor.Ln6

/-
  Layer 6: the document's 'ends': a block's end.
-/
namespace Go.Proofs.YtdgmdpphimenjaaDoor.Ln6
open Go.RowKit Api Syn WordM Mem
open LinesM hiding Wd

/-- 'append(s, x...)' of words that are read, be there none. -/
theorem words_read {P : Program} {w : World} {ops : Array Oper} {rest : List Oper} {o : Oper} {a : Go.Act} {Q : Exit → Go.Act → World → Prop} (hgd : o.guard = none) (s x : Operand) (t : TypeId)
    (ho : o.op = .call { callee := .builtin .append, args := #[s, x], argTypes := #[t, t] })
    (ht : P.underlying t = some (.slice 9)) (hinf : (P.info? 9).map (fun i => (i.zero, i.size, i.bytes)) = some (some (.string ⟨#[]⟩), 1, 16))
    {base lo hi : Nat} (v : Value) (ws : List Wd) (hs : a.eval s = v) (hown : w.ownsRow base 9 1 v ws.length (ws.map str))
    (A : Option Addr) (m cap : Nat) (news : List Wd) (hx : a.eval x = .slice A m cap) (hr : Texts lo hi w (.slice A m cap) news)
    (hn : ws.length + news.length ≤ 2000000000) (hbase : base ≤ w.heap.size)
    (h : ∀ v' w', w'.ownsRow base 9 1 v' (ws ++ news).length ((ws ++ news).map str) → Below base w w' → wpList P ops Q rest (a.put o.dst v') w') :
    wpList P ops Q (o :: rest) a w := by
  obtain ⟨i, hi, hz0, hz1, hz2⟩ := info_parts hinf
  obtain ⟨b, off, hm, _, ha, hc⟩ := Row.get hr
  by_cases h0 : m = 0
  · obtain rfl : news = [] := List.eq_nil_of_length_eq_zero (by omega)
    subst h0
    refine wpList_plain hgd fun K hK => ?_
    have hrun : (Builtin.append_ #[t, t] o.type #[v, .slice A 0 cap]).run P w = .ok v w := by
      rcases hown.2 with ⟨rfl, hz⟩ | ⟨g, cap, cur, rfl, _, _, hnc, _⟩
      · cases A <;> simp [Builtin.append_, run_underlying ht, sizeOf, typeInfo, hi, Builtin.lenOf, Builtin.firstCells, loadCells, loadCellsFrom]
      · cases A <;> simp [Builtin.append_, run_underlying ht, sizeOf, typeInfo, hi, Builtin.lenOf, Builtin.firstCells, hnc, storeCells, loadCells, loadCellsFrom]
    unfold Oper.wp
    simp [execOp, ho, resolve, invoke, builtin, hs, hx, hrun, Result.andThen]
    exact hK _ _ (h v w (by rw [List.append_nil]; exact hown) (Below.refl _ _))
  · obtain ⟨rfl, _, _⟩ := ha (by omega)
    refine wpList_append_own (w := w) hgd s x t ho base 9 i (.string ⟨#[]⟩) 1 16 ht hi hz0 hz1 hz2 rfl (by decide) v ws.length (ws.map str) hs hown ⟨b, off, none⟩ m cap (news.map str) hx (by simp; omega) (fun j u hu => ?_) (fun u hu => ?_) (by unfold maxLen; omega) (by omega) hbase ?_
    · have e1 : (⟨b, off, none⟩ : Addr).add j = ⟨b, off + j, none⟩ := by unfold Addr.add; split <;> simp_all
      rw [List.getElem?_map] at hu
      cases hj : news[j]? with
      | none => rw [hj] at hu; cases hu
      | some y =>
        rw [hj] at hu
        obtain ⟨cs, _, hcs, rfl⟩ := hc j y hj
        have := hcs 0 _ rfl
        simp only [Nat.mul_one, Nat.add_zero] at this
        rw [e1, this]
        simpa using hu
    · obtain ⟨y, _, rfl⟩ := List.mem_map.1 hu
      rfl
    · intro v' w' h2 h3 _
      refine h v' w' ?_ ((Below.refl base w).grown h3 hbase (fun k hk => (hown.lt k hk).1))
      rw [List.length_append, List.map_append, ← hm]
      exact h2
set_option maxRecDepth 100000 in
set_option maxHeartbeats 8000000 in
theorem ends6_any {B lo hi : Nat} {w : World} {v : Value} (l : Wd) (cs : List Value) (x : Api.Term) (hc : TermC lo hi w cs x) (ho : Out B v l w) (hh : hi ≤ B) (hB : B ≤ w.heap.size)
    (hG : OpenP.termG x) (hN : x.dest.length ≤ 1000000) (hT : l.length + (joinV (endsL x)).length ≤ 1099511627776) :
    Calls Tryd.prog 21 #[v, .agg cs.toArray] w (Wr B l (endsL x) w) := by
  obtain ⟨u1, rfl, h1⟩ := hc
  obtain ⟨A1, k1, rfl⟩ := Row.form h1
  have QA := Lib.hid (fun (W' : World) => R03.put_at x.a.kind ⟨x.a.s.toArray⟩ x.a.n (argW x.a) hG.2.1.1.2 (by have := hG.2.1.2; show x.a.s.toArray.size ≤ _; simp; unfold OpenP.strG at this; omega) rfl W')
  have QN := Lib.hid (fun (W' : World) => R01.put_any x.n W' hG.2.2.2)
  have HT := Lib.hid hT
  have H1 := Lib.hid h1
  obtain ⟨kd, arg, dest, nn⟩ := x
  simp only at *
  have hc9 : (kd < 1 ∨ 4 < kd) ∨ kd = 1 ∨ kd = 2 ∨ kd = 3 ∨ kd = 4 := by omega
  obtain ⟨W, hW⟩ : ∃ W, w.alloc (.cells #[i64 kd, i64 arg.kind, str arg.s, i64 arg.n, .slice A1 dest.length k1, i64 nn] 46) = W := ⟨_, rfl⟩
  have HW := Lib.hid hW
  have HBX := Lib.hid (show Below w.heap.size w W by rw [← hW]; exact (Below.refl _ _).alloc (Nat.le_refl _) _)
  have hzW : W.heap.size = w.heap.size + 1 := by rw [← hW]; simp
  have hBW : B ≤ W.heap.size := by omega
  have HO := Lib.hid (show Mem.Own W w.heap.size 46 [i64 kd, i64 arg.kind, str arg.s, i64 arg.n, .slice A1 dest.length k1, i64 nn] by rw [← hW]; exact Mem.Own.made w _ _)
  have HV := Lib.hid (ho.below HBX.out)
  clear hW h1 hG hT ho
  go_enter Tryd.func21, Tryd.ntmps21
  rcases hc9 with hk | hk | hk | hk | hk
  · have HE := Lib.hid (show endsL ⟨kd, arg, dest, nn⟩ = [] by unfold endsL; rw [if_pos hk])
    have q0 := HO.out.cell 0
    simp only [List.getElem?_cons_zero] at q0
    by_cases hk1 : kd < 1
    · have e1 : decide (kd < 1) = true := decide_eq_true hk1
      clear hk hk1
      go_wp2_with fail
      rw [HW.out]
      go_ret
      exact ⟨_, rfl, by rw [HE.out]; show Out B v (l ++ []) _; rw [List.append_nil]; exact HV.out.below ((Below.refl _ _).alloc (Nat.le_refl _) _), (HBX.out.mono hB).trans (((Below.refl _ _).alloc (Nat.le_refl _) _).mono hBW), (KN.below HBX.out).trans (KN.below ((Below.refl _ _).alloc (Nat.le_refl _) _))⟩
    · have e1 : decide (kd < 1) = false := decide_eq_false hk1
      have e2 : decide (4 < kd) = true := decide_eq_true (by omega)
      clear hk hk1
      go_wp2_with fail
      rw [HW.out]
      go_ret
      exact ⟨_, rfl, by rw [HE.out]; show Out B v (l ++ []) _; rw [List.append_nil]; exact HV.out.below ((Below.refl _ _).alloc (Nat.le_refl _) _), (HBX.out.mono hB).trans (((Below.refl _ _).alloc (Nat.le_refl _) _).mono hBW), (KN.below HBX.out).trans (KN.below ((Below.refl _ _).alloc (Nat.le_refl _) _))⟩
  · subst hk
    have HE := Lib.hid (show endsL (⟨1, arg, dest, nn⟩ : Api.Term) = [[[106, 117, 109, 112]] ++ dest] by unfold endsL endW endWd; simp)
    obtain ⟨W6, hW6⟩ : ∃ W6, (W.alloc (.cells #[.string ⟨#[]⟩, .string ⟨#[106, 117, 109, 112]⟩, .string ⟨#[98, 114, 97, 110, 99, 104]⟩, .string ⟨#[114, 101, 116]⟩, .string ⟨#[116, 114, 97, 112]⟩] 9)).alloc (.cells #[.string ⟨#[106, 117, 109, 112]⟩] 9) = W6 := ⟨_, rfl⟩
    have HB6 := Lib.hid (show Below W.heap.size W W6 by rw [← hW6]; exact ((Below.refl _ _).alloc (Nat.le_refl _) _).alloc (by simp) _)
    have HL6 := Lib.hid (lit_row (w := W.alloc (.cells #[.string ⟨#[]⟩, .string ⟨#[106, 117, 109, 112]⟩, .string ⟨#[98, 114, 97, 110, 99, 104]⟩, .string ⟨#[114, 101, 116]⟩, .string ⟨#[116, 114, 97, 112]⟩] 9)) [[106, 117, 109, 112]] W.heap.size (w.heap.size + 1 + 1) _ rfl hW6 (by simp; omega) (by simp) (by simp))
    have HS6 := Lib.hid (show W.heap.size ≤ W6.heap.size from HB6.out.size)
    have HW6 := Lib.hid hW6
    have q0 := HO.out.cell 0
    have r4 := (HO.out.below HB6.out HO.out.lt).cell 4
    have r1 := (HO.out.below HB6.out HO.out.lt).cell 1
    have r2 := (HO.out.below HB6.out HO.out.lt).cell 2
    have r3 := (HO.out.below HB6.out HO.out.lt).cell 3
    have r5 := (HO.out.below HB6.out HO.out.lt).cell 5
    simp only [List.getElem?_cons_zero, List.getElem?_cons_succ] at q0 r1 r2 r3 r4 r5
    clear hW6
    go_wp2_with (first | (at_builtin; rw [HW.out, HW6.out]; refine words_read rfl _ _ 41 rfl Tryd.underlying41 str_info _ [[106, 117, 109, 112]] rfl HL6.out A1 dest.length k1 dest rfl (Texts.move (Still.of_below ((HBX.out.trans (HB6.out.mono (by omega))).mono (Nat.le_trans hh hB))) H1.out) (by simp; omega) HS6.out ?_; intro v9 w9 hown9 hb9; have HL9 := Lib.hid hown9; have HB9 := Lib.hid (HB6.out.trans hb9); have HS9 := Lib.hid (Nat.le_trans HS6.out hb9.size); have r0 := (HO.out.below HB9.out HO.out.lt).cell 0; have r5 := (HO.out.below HB9.out HO.out.lt).cell 5; simp only [List.getElem?_cons_zero, List.getElem?_cons_succ] at r0 r5; clear hown9 hb9) | (go_at_call 16; refine (put6_any (B2 := W.heap.size) l ([[106, 117, 109, 112]] ++ dest) (HV.out.keep HB9.out fun k hk => (World.ownsRow.lt HV.out k hk).2) HL9.out (Nat.le_trans hBW HS9.out) (by have := HT.out; rw [HE.out] at this; simpa only [List.append_assoc, List.cons_append, List.nil_append] using this) (by simp; omega)).mono ?_; rintro e w12 ⟨v12, rfl, h12, hb12, hk12⟩; have HV12 := Lib.hid h12; have HB12 := Lib.hid hb12; have HK12 := Lib.hid hk12; clear h12 hb12 hk12))
    go_ret
    exact ⟨v12, rfl, by rw [HE.out]; simpa only [List.append_assoc, List.cons_append, List.nil_append] using HV12.out, (HBX.out.mono hB).trans ((HB9.out.mono hBW).trans HB12.out), (KN.below HBX.out).trans ((KN.below HB9.out).trans HK12.out)⟩
  · subst hk
    have HE := Lib.hid (show endsL (⟨2, arg, dest, nn⟩ : Api.Term) = [[[98, 114, 97, 110, 99, 104]] ++ [argW arg] ++ dest] by unfold endsL endW endWd; simp)
    obtain ⟨W6, hW6⟩ : ∃ W6, (W.alloc (.cells #[.string ⟨#[]⟩, .string ⟨#[106, 117, 109, 112]⟩, .string ⟨#[98, 114, 97, 110, 99, 104]⟩, .string ⟨#[114, 101, 116]⟩, .string ⟨#[116, 114, 97, 112]⟩] 9)).alloc (.cells #[.string ⟨#[98, 114, 97, 110, 99, 104]⟩] 9) = W6 := ⟨_, rfl⟩
    have HB6 := Lib.hid (show Below W.heap.size W W6 by rw [← hW6]; exact ((Below.refl _ _).alloc (Nat.le_refl _) _).alloc (by simp) _)
    have HL6 := Lib.hid (lit_row (w := W.alloc (.cells #[.string ⟨#[]⟩, .string ⟨#[106, 117, 109, 112]⟩, .string ⟨#[98, 114, 97, 110, 99, 104]⟩, .string ⟨#[114, 101, 116]⟩, .string ⟨#[116, 114, 97, 112]⟩] 9)) [[98, 114, 97, 110, 99, 104]] W.heap.size (w.heap.size + 1 + 1) _ rfl hW6 (by simp; omega) (by simp) (by simp))
    have HS6 := Lib.hid (show W.heap.size ≤ W6.heap.size from HB6.out.size)
    have HW6 := Lib.hid hW6
    have q0 := HO.out.cell 0
    have r4 := (HO.out.below HB6.out HO.out.lt).cell 4
    have r1 := (HO.out.below HB6.out HO.out.lt).cell 1
    have r2 := (HO.out.below HB6.out HO.out.lt).cell 2
    have r3 := (HO.out.below HB6.out HO.out.lt).cell 3
    have r5 := (HO.out.below HB6.out HO.out.lt).cell 5
    simp only [List.getElem?_cons_zero, List.getElem?_cons_succ] at q0 r1 r2 r3 r4 r5
    clear hW6
    go_wp2_with (first | (go_at_call 19; rw [HW.out, HW6.out]; refine (QA.out _).mono ?_; rintro e w7 ⟨rfl, hb7⟩; have HL7 := Lib.hid (row_later HL6.out hb7); have HB7 := Lib.hid (HB6.out.trans (hb7.mono HS6.out)); have HS7 := Lib.hid (Nat.le_trans HS6.out hb7.size); clear hb7) | (at_builtin; refine words_push rfl _ _ 41 rfl Tryd.underlying41 str_info _ [[98, 114, 97, 110, 99, 104]] rfl HL7.out [argW arg] _ rfl _ _ rfl rfl rfl (by simp) HS7.out ?_; intro v8 w8 hown8 hg8; have HL8 := Lib.hid hown8; have HB8 := Lib.hid (HB7.out.grown hg8 HS7.out (fun k hk => (HL7.out.lt k hk).1)); have HS8 := Lib.hid (Nat.le_trans HS7.out hg8.size); have r4 := (HO.out.below HB8.out HO.out.lt).cell 4; simp only [List.getElem?_cons_zero, List.getElem?_cons_succ] at r4; clear hown8 hg8) | (at_builtin; refine words_read rfl _ _ 41 rfl Tryd.underlying41 str_info _ ([[98, 114, 97, 110, 99, 104]] ++ [argW arg]) rfl HL8.out A1 dest.length k1 dest rfl (Texts.move (Still.of_below ((HBX.out.trans (HB8.out.mono (by omega))).mono (Nat.le_trans hh hB))) H1.out) (by simp; omega) HS8.out ?_; intro v9 w9 hown9 hb9; have HL9 := Lib.hid hown9; have HB9 := Lib.hid (HB8.out.trans hb9); have HS9 := Lib.hid (Nat.le_trans HS8.out hb9.size); have r0 := (HO.out.below HB9.out HO.out.lt).cell 0; have r5 := (HO.out.below HB9.out HO.out.lt).cell 5; simp only [List.getElem?_cons_zero, List.getElem?_cons_succ] at r0 r5; clear hown9 hb9) | (go_at_call 16; refine (put6_any (B2 := W.heap.size) l (([[98, 114, 97, 110, 99, 104]] ++ [argW arg]) ++ dest) (HV.out.keep HB9.out fun k hk => (World.ownsRow.lt HV.out k hk).2) HL9.out (Nat.le_trans hBW HS9.out) (by have := HT.out; rw [HE.out] at this; simpa only [List.append_assoc, List.cons_append, List.nil_append] using this) (by simp; omega)).mono ?_; rintro e w12 ⟨v12, rfl, h12, hb12, hk12⟩; have HV12 := Lib.hid h12; have HB12 := Lib.hid hb12; have HK12 := Lib.hid hk12; clear h12 hb12 hk12))
    go_ret
    exact ⟨v12, rfl, by rw [HE.out]; simpa only [List.append_assoc, List.cons_append, List.nil_append] using HV12.out, (HBX.out.mono hB).trans ((HB9.out.mono hBW).trans HB12.out), (KN.below HBX.out).trans ((KN.below HB9.out).trans HK12.out)⟩
  · subst hk
    have HE := Lib.hid (show endsL (⟨3, arg, dest, nn⟩ : Api.Term) = [[[114, 101, 116]] ++ [argW arg] ++ dest] by unfold endsL endW endWd; simp)
    obtain ⟨W6, hW6⟩ : ∃ W6, (W.alloc (.cells #[.string ⟨#[]⟩, .string ⟨#[106, 117, 109, 112]⟩, .string ⟨#[98, 114, 97, 110, 99, 104]⟩, .string ⟨#[114, 101, 116]⟩, .string ⟨#[116, 114, 97, 112]⟩] 9)).alloc (.cells #[.string ⟨#[114, 101, 116]⟩] 9) = W6 := ⟨_, rfl⟩
    have HB6 := Lib.hid (show Below W.heap.size W W6 by rw [← hW6]; exact ((Below.refl _ _).alloc (Nat.le_refl _) _).alloc (by simp) _)
    have HL6 := Lib.hid (lit_row (w := W.alloc (.cells #[.string ⟨#[]⟩, .string ⟨#[106, 117, 109, 112]⟩, .string ⟨#[98, 114, 97, 110, 99, 104]⟩, .string ⟨#[114, 101, 116]⟩, .string ⟨#[116, 114, 97, 112]⟩] 9)) [[114, 101, 116]] W.heap.size (w.heap.size + 1 + 1) _ rfl hW6 (by simp; omega) (by simp) (by simp))
    have HS6 := Lib.hid (show W.heap.size ≤ W6.heap.size from HB6.out.size)
    have HW6 := Lib.hid hW6
    have q0 := HO.out.cell 0
    have r4 := (HO.out.below HB6.out HO.out.lt).cell 4
    have r1 := (HO.out.below HB6.out HO.out.lt).cell 1
    have r2 := (HO.out.below HB6.out HO.out.lt).cell 2
    have r3 := (HO.out.below HB6.out HO.out.lt).cell 3
    have r5 := (HO.out.below HB6.out HO.out.lt).cell 5
    simp only [List.getElem?_cons_zero, List.getElem?_cons_succ] at q0 r1 r2 r3 r4 r5
    clear hW6
    go_wp2_with (first | (go_at_call 19; rw [HW.out, HW6.out]; refine (QA.out _).mono ?_; rintro e w7 ⟨rfl, hb7⟩; have HL7 := Lib.hid (row_later HL6.out hb7); have HB7 := Lib.hid (HB6.out.trans (hb7.mono HS6.out)); have HS7 := Lib.hid (Nat.le_trans HS6.out hb7.size); clear hb7) | (at_builtin; refine words_push rfl _ _ 41 rfl Tryd.underlying41 str_info _ [[114, 101, 116]] rfl HL7.out [argW arg] _ rfl _ _ rfl rfl rfl (by simp) HS7.out ?_; intro v8 w8 hown8 hg8; have HL8 := Lib.hid hown8; have HB8 := Lib.hid (HB7.out.grown hg8 HS7.out (fun k hk => (HL7.out.lt k hk).1)); have HS8 := Lib.hid (Nat.le_trans HS7.out hg8.size); have r4 := (HO.out.below HB8.out HO.out.lt).cell 4; simp only [List.getElem?_cons_zero, List.getElem?_cons_succ] at r4; clear hown8 hg8) | (at_builtin; refine words_read rfl _ _ 41 rfl Tryd.underlying41 str_info _ ([[114, 101, 116]] ++ [argW arg]) rfl HL8.out A1 dest.length k1 dest rfl (Texts.move (Still.of_below ((HBX.out.trans (HB8.out.mono (by omega))).mono (Nat.le_trans hh hB))) H1.out) (by simp; omega) HS8.out ?_; intro v9 w9 hown9 hb9; have HL9 := Lib.hid hown9; have HB9 := Lib.hid (HB8.out.trans hb9); have HS9 := Lib.hid (Nat.le_trans HS8.out hb9.size); have r0 := (HO.out.below HB9.out HO.out.lt).cell 0; have r5 := (HO.out.below HB9.out HO.out.lt).cell 5; simp only [List.getElem?_cons_zero, List.getElem?_cons_succ] at r0 r5; clear hown9 hb9) | (go_at_call 16; refine (put6_any (B2 := W.heap.size) l (([[114, 101, 116]] ++ [argW arg]) ++ dest) (HV.out.keep HB9.out fun k hk => (World.ownsRow.lt HV.out k hk).2) HL9.out (Nat.le_trans hBW HS9.out) (by have := HT.out; rw [HE.out] at this; simpa only [List.append_assoc, List.cons_append, List.nil_append] using this) (by simp; omega)).mono ?_; rintro e w12 ⟨v12, rfl, h12, hb12, hk12⟩; have HV12 := Lib.hid h12; have HB12 := Lib.hid hb12; have HK12 := Lib.hid hk12; clear h12 hb12 hk12))
    go_ret
    exact ⟨v12, rfl, by rw [HE.out]; simpa only [List.append_assoc, List.cons_append, List.nil_append] using HV12.out, (HBX.out.mono hB).trans ((HB9.out.mono hBW).trans HB12.out), (KN.below HBX.out).trans ((KN.below HB9.out).trans HK12.out)⟩
  · subst hk
    have HE := Lib.hid (show endsL (⟨4, arg, dest, nn⟩ : Api.Term) = [[[116, 114, 97, 112]] ++ dest ++ [NumM.dec nn]] by unfold endsL endW endWd; simp)
    obtain ⟨W6, hW6⟩ : ∃ W6, (W.alloc (.cells #[.string ⟨#[]⟩, .string ⟨#[106, 117, 109, 112]⟩, .string ⟨#[98, 114, 97, 110, 99, 104]⟩, .string ⟨#[114, 101, 116]⟩, .string ⟨#[116, 114, 97, 112]⟩] 9)).alloc (.cells #[.string ⟨#[116, 114, 97, 112]⟩] 9) = W6 := ⟨_, rfl⟩
    have HB6 := Lib.hid (show Below W.heap.size W W6 by rw [← hW6]; exact ((Below.refl _ _).alloc (Nat.le_refl _) _).alloc (by simp) _)
    have HL6 := Lib.hid (lit_row (w := W.alloc (.cells #[.string ⟨#[]⟩, .string ⟨#[106, 117, 109, 112]⟩, .string ⟨#[98, 114, 97, 110, 99, 104]⟩, .string ⟨#[114, 101, 116]⟩, .string ⟨#[116, 114, 97, 112]⟩] 9)) [[116, 114, 97, 112]] W.heap.size (w.heap.size + 1 + 1) _ rfl hW6 (by simp; omega) (by simp) (by simp))
    have HS6 := Lib.hid (show W.heap.size ≤ W6.heap.size from HB6.out.size)
    have HW6 := Lib.hid hW6
    have q0 := HO.out.cell 0
    have r4 := (HO.out.below HB6.out HO.out.lt).cell 4
    have r1 := (HO.out.below HB6.out HO.out.lt).cell 1
    have r2 := (HO.out.below HB6.out HO.out.lt).cell 2
    have r3 := (HO.out.below HB6.out HO.out.lt).cell 3
    have r5 := (HO.out.below HB6.out HO.out.lt).cell 5
    simp only [List.getElem?_cons_zero, List.getElem?_cons_succ] at q0 r1 r2 r3 r4 r5
    clear hW6
    go_wp2_with (first | (at_builtin; rw [HW.out, HW6.out]; refine words_read rfl _ _ 41 rfl Tryd.underlying41 str_info _ [[116, 114, 97, 112]] rfl HL6.out A1 dest.length k1 dest rfl (Texts.move (Still.of_below ((HBX.out.trans (HB6.out.mono (by omega))).mono (Nat.le_trans hh hB))) H1.out) (by simp; omega) HS6.out ?_; intro v9 w9 hown9 hb9; have HL9 := Lib.hid hown9; have HB9 := Lib.hid (HB6.out.trans hb9); have HS9 := Lib.hid (Nat.le_trans HS6.out hb9.size); have r0 := (HO.out.below HB9.out HO.out.lt).cell 0; have r5 := (HO.out.below HB9.out HO.out.lt).cell 5; simp only [List.getElem?_cons_zero, List.getElem?_cons_succ] at r0 r5; clear hown9 hb9) | (go_at_call 18; refine (QN.out _).mono ?_; rintro e w10 ⟨rfl, hb10⟩; have HL10 := Lib.hid (row_later HL9.out hb10); have HB10 := Lib.hid (HB9.out.trans (hb10.mono HS9.out)); have HS10 := Lib.hid (Nat.le_trans HS9.out hb10.size); clear hb10) | (at_builtin; refine words_push rfl _ _ 41 rfl Tryd.underlying41 str_info _ ([[116, 114, 97, 112]] ++ dest) rfl HL10.out [NumM.dec nn] _ rfl _ _ rfl rfl rfl (by simp; omega) HS10.out ?_; intro v11 w11 hown11 hg11; have HL11 := Lib.hid hown11; have HB11 := Lib.hid (HB10.out.grown hg11 HS10.out (fun k hk => (HL10.out.lt k hk).1)); have HS11 := Lib.hid (Nat.le_trans HS10.out hg11.size); clear hown11 hg11) | (go_at_call 16; refine (put6_any (B2 := W.heap.size) l (([[116, 114, 97, 112]] ++ dest) ++ [NumM.dec nn]) (HV.out.keep HB11.out fun k hk => (World.ownsRow.lt HV.out k hk).2) HL11.out (Nat.le_trans hBW HS11.out) (by have := HT.out; rw [HE.out] at this; simpa only [List.append_assoc, List.cons_append, List.nil_append] using this) (by simp; omega)).mono ?_; rintro e w12 ⟨v12, rfl, h12, hb12, hk12⟩; have HV12 := Lib.hid h12; have HB12 := Lib.hid hb12; have HK12 := Lib.hid hk12; clear h12 hb12 hk12))
    go_ret
    exact ⟨v12, rfl, by rw [HE.out]; simpa only [List.append_assoc, List.cons_append, List.nil_append] using HV12.out, (HBX.out.mono hB).trans ((HB11.out.mono hBW).trans HB12.out), (KN.below HBX.out).trans ((KN.below HB11.out).trans HK12.out)⟩
end Go.Proofs.YtdgmdpphimenjaaDoor.Ln6

/-
  Layer 6: the document's 'Lines', of a program that has functions alone.
-/
namespace Go.Proofs.YtdgmdpphimenjaaDoor.Ln6
open Go.RowKit Api Syn WordM Mem
open LinesM hiding Wd

/-- what is written so far, and what stays. -/
structure Sc (B : Nat) (w Wb : World) (T : Wd) (ov : Value) (wr : World) : Prop where
  out : Out B ov T wr
  low : Below B w wr
  kn : KN Wb wr
  sz : B ≤ wr.heap.size
theorem Sc.below {B : Nat} {w Wb wr w' : World} {T : Wd} {ov : Value} (h : Sc B w Wb T ov wr) (hb : Below wr.heap.size wr w') : Sc B w Wb T ov w' := ⟨h.out.below hb, h.low.trans (hb.mono h.sz), h.kn.trans (KN.below hb), Nat.le_trans h.sz hb.size⟩
theorem Sc.more {B : Nat} {w Wb wr w' : World} {T : Wd} {ov v' : Value} {Ls : List (List Wd)} (h : Sc B w Wb T ov wr) (h1 : Out B v' (T ++ joinV Ls) w') (h2 : Below B wr w') (h3 : KN wr w') : Sc B w Wb (T ++ joinV Ls) v' w' := ⟨h1, h.low.trans h2, h.kn.trans h3, Nat.le_trans h.sz h2.size⟩
theorem Sc.base {B : Nat} {w Wb wr : World} {T : Wd} {ov : Value} (h : Sc B w Wb T ov wr) : Sc B w wr T ov wr := ⟨h.out, h.low, KN.refl _, h.sz⟩
theorem Sc.wide {B : Nat} {w Wa Wb wr : World} {T : Wd} {ov : Value} (h : Sc B w Wb T ov wr) (hk : KN Wa Wb) : Sc B w Wa T ov wr := ⟨h.out, h.low, hk.trans h.kn, h.sz⟩
theorem Sc.as {B : Nat} {w Wb wr : World} {T U : Wd} {ov : Value} (h : Sc B w Wb T ov wr) (e : T = U) : Sc B w Wb U ov wr := e ▸ h
theorem joinV_none (T : Wd) : T ++ joinV [] = T := by show T ++ [] = T; rw [List.append_nil]
theorem flat_step {α : Type} {f : α → List (List Wd)} {L : List α} {k : Nat} {a : α} (h : L[k]? = some a) (l : Wd) : l ++ joinV ((L.take (k + 1)).flatMap f) = l ++ joinV ((L.take k).flatMap f) ++ joinV (f a) := by rw [flat_next f h, joinV_app, List.append_assoc]
theorem flat_fit {α : Type} {f : α → List (List Wd)} {L : List α} {k : Nat} {a : α} (h : L[k]? = some a) {l : Wd} {n : Nat} (hT : l.length + (joinV (L.flatMap f)).length ≤ n) : (l ++ joinV ((L.take k).flatMap f)).length + (joinV (f a)).length ≤ n := by
  have h1 : joinV (L.flatMap f) = joinV ((L.take (k + 1)).flatMap f) ++ joinV ((L.drop (k + 1)).flatMap f) := by rw [← joinV_app, ← List.flatMap_append, List.take_append_drop]
  rw [h1, flat_next f h, joinV_app, List.length_append, List.length_append] at hT
  rw [List.length_append]
  omega
theorem four_kn {W W' : World} {g : Nat} {t : TypeId} {c0 c1 c2 c3 c4 : Value} (o : Mem.Own W g t [c0, c1, c2, c3, c4]) (h : KN W W') (ht : t ≠ 5) : W'.cell? ⟨g, 0, none⟩ = some c0 ∧ W'.cell? ⟨g, 1, none⟩ = some c1 ∧ W'.cell? ⟨g, 2, none⟩ = some c2 ∧ W'.cell? ⟨g, 3, none⟩ = some c3 := ⟨(h.own o ht).cell 0, (h.own o ht).cell 1, (h.own o ht).cell 2, (h.own o ht).cell 3⟩
theorem code_cnt {b : Api.Block} {x : Instr} (h : x ∈ b.code) (hN : Few6.cBlock b ≤ 1000000) : Few6.cInstr x ≤ 1000000 := by
  have h1 : Few6.cInstr x ≤ Few6.sumOf Few6.cInstr b.code := Few6.sum_mem _ h
  unfold Few6.cBlock at hN
  omega
theorem block_cnt {f : Api.Func} {b : Api.Block} (h : b ∈ f.blocks) (hN : Few6.cFunc f ≤ 1000000) : Few6.cBlock b ≤ 1000000 := by
  have h1 : Few6.cBlock b ≤ Few6.sumOf Few6.cBlock f.blocks := Few6.sum_mem _ h
  unfold Few6.cFunc at hN
  omega
theorem ins_cnt {b : Api.Block} {p : Phi} (h : p ∈ b.phis) (hN : Few6.cBlock b ≤ 1000000) : p.ins.length ≤ 1000000 := by
  have h1 : Few6.cPhi p ≤ Few6.sumOf Few6.cPhi b.phis := Few6.sum_mem _ h
  have h2 : p.ins.length ≤ Few6.sumOf Few6.cBind p.ins := Few6.sum_len _ _ fun x => by unfold Few6.cBind; omega
  unfold Few6.cPhi at h1
  unfold Few6.cBlock at hN
  unfold Few6.cPhi at hN
  omega
theorem dest_cnt {b : Api.Block} (hN : Few6.cBlock b ≤ 1000000) : b.fin.dest.length ≤ 1000000 := by
  have h2 : b.fin.dest.length ≤ Few6.sumOf Few6.cText b.fin.dest := Few6.sum_len _ _ fun x => by unfold Few6.cText; omega
  unfold Few6.cBlock at hN
  omega
set_option maxRecDepth 100000 in
set_option maxHeartbeats 16000000 in
theorem lines1_any {lo hi : Nat} {w : World} {vf : Value} (fs : List Api.Func) (hf : Row lo hi w 5 (FuncC lo hi w) vf fs) (hh : hi ≤ w.heap.size) (hL : R05.Laid w) (hG : ∀ f ∈ fs, OpenP.funcG f) (hN : ∀ f ∈ fs, Few6.cFunc f ≤ 1000000) (hT : (joinV (fs.flatMap funcL)).length ≤ 1099511627776) (h0 : joinV (fs.flatMap funcL) ≠ []) :
    Calls Tryd.prog 7 #[.agg #[.bool false, .slice none 0 0, .slice none 0 0, .slice none 0 0, vf]] w fun e w' => e = .returned (str (joinV (fs.flatMap funcL))) ∧ Below w.heap.size w w' := by
  obtain ⟨FA, fc, rfl⟩ := Row.form hf
  have hfl : fs.length ≤ 4611686018427387903 := by obtain ⟨_, _, _, h, _⟩ := Row.get hf; exact h
  obtain ⟨W, hW⟩ : ∃ W, w.alloc (.cells #[.bool false, .slice none 0 0, .slice none 0 0, .slice none 0 0, .slice FA fs.length fc] 27) = W := ⟨_, rfl⟩
  have HW := Lib.hid hW
  have HBX := Lib.hid (show Below w.heap.size w W by rw [← hW]; exact (Below.refl _ _).alloc (Nat.le_refl _) _)
  have HOP := Lib.hid (show Mem.Own W w.heap.size 27 [.bool false, .slice none 0 0, .slice none 0 0, .slice none 0 0, .slice FA fs.length fc] by rw [← hW]; exact Mem.Own.made w _ _)
  have HF := Lib.hid hf
  have HG := Lib.hid hG
  have HN := Lib.hid hN
  have HT := Lib.hid hT
  have hgl : 0 < w.heap.size := hL.lt
  have HLW := Lib.hid hL
  have HS0 := Lib.hid (show Sc w.heap.size w W ([] : Wd) (.slice none 0 0) W from ⟨World.ownsRow_nil _ _ _ _, HBX.out, KN.refl _, HBX.out.size⟩)
  have QV0 := Lib.hid (vars6_any (w := W) (B := w.heap.size) (lo := lo) (hi := hi) (v := .slice none 0 0) (vl := .slice none 0 0) [] [103, 108, 111, 98, 97, 108] [] HS0.out.out (⟨none, 0, 0, 0, 0, rfl, rfl, by omega, by omega, fun i x h => by simp at h⟩) hh HBX.out.size (by simp [varsL]; unfold joinV; simp))
  clear hW hf hG hN hT hL
  have p0 := HOP.out.cell 0
  have p1 := HOP.out.cell 1
  have p2 := HOP.out.cell 2
  have p3 := HOP.out.cell 3
  have p4 := HOP.out.cell 4
  simp only [List.getElem?_cons_zero, List.getElem?_cons_succ] at p0 p1 p2 p3 p4
  go_enter Tryd.func7, Tryd.ntmps7
  go_wp2_with fail
  rw [HW.out]
  go_loopw [3, 4] (fun ov iv wr => ov = .slice none 0 0 ∧ iv = .int .i64 0 ∧ wr = W) (fun _ _ _ => 0)
  case atStart => exact ⟨rfl, rfl, rfl⟩
  case round =>
  obtain ⟨rfl, rfl, hwr⟩ := hrel
  rw [hwr]
  clear hwr
  go_wp2_with fail
  with_reducible refine QV0.out.mono ?_
  rintro e w5 ⟨v5, rfl, h5, hb5, hk5⟩
  have HS5 := Lib.hid ((HS0.out.more h5 hb5 hk5).as (show [] ++ joinV (varsL [103, 108, 111, 98, 97, 108] []) = joinV ((fs.take 0).flatMap funcL) by simp [varsL, joinV]))
  have HB5 := Lib.hid hb5
  clear h5 hb5 hk5 p0 p1 p2 p3 p4 QV0 HS0
  have p0 := (HS5.out.kn.own HOP.out (by decide)).cell 0
  have p1 := (HS5.out.kn.own HOP.out (by decide)).cell 1
  have p2 := (HS5.out.kn.own HOP.out (by decide)).cell 2
  have p3 := (HS5.out.kn.own HOP.out (by decide)).cell 3
  have p4 := (HS5.out.kn.own HOP.out (by decide)).cell 4
  simp only [List.getElem?_cons_zero, List.getElem?_cons_succ] at p0 p1 p2 p3 p4
  go_wp2_with fail
  go_loopw [3, 5] (fun ov iv wr => ov = v5 ∧ iv = .int .i64 0 ∧ wr = w5) (fun _ _ _ => 0)
  case atStart => exact ⟨rfl, rfl, rfl⟩
  case round =>
  obtain ⟨hov, rfl, hwr⟩ := hrel
  rw [hwr, hov]
  clear hwr hov
  go_wp2_with fail
  go_loopw [3, 6] (fun ov iv wr => ∃ q : Nat, q ≤ fs.length ∧ iv = .int .i64 q ∧ Hid (Sc w.heap.size w W (joinV ((fs.take q).flatMap funcL)) ov wr)) (fun _ iv _ => fs.length - (intOf iv).toNat)
  case atStart => exact ⟨0, Nat.zero_le _, rfl, HS5⟩
  case round =>
  clear HS5 HB5 p0 p1 p2 p3 p4
  obtain ⟨q, hq, rfl, HS⟩ := hrel
  have p4 := (HS.out.kn.own HOP.out (by decide)).cell 4
  simp only [List.getElem?_cons_zero, List.getElem?_cons_succ] at p4
  by_cases hqt : q < fs.length
  · obtain ⟨f, hy⟩ : ∃ y, fs[q]? = some y := ⟨_, List.getElem?_eq_getElem hqt⟩
    obtain ⟨b1, o1, rfl, hb1, cs1, hcl1, hcs1, u1, u2, u3, rfl, kp, kv, kb⟩ := row_at6 HF.out hy
    obtain ⟨P1, c1, rfl⟩ := Row.form kp
    obtain ⟨P2, c2, rfl⟩ := Row.form kv
    obtain ⟨P3, c3, rfl⟩ := Row.form kb
    obtain ⟨m0, m1, m2, m3, m4⟩ := at5 (cells_later hcs1 (HS.out.low.mono hh) hb1)
    have hbl : f.blocks.length ≤ 4611686018427387903 := by obtain ⟨_, _, _, h, _⟩ := Row.get kb; exact h
    have HFM := Lib.hid (List.mem_of_getElem? hy)
    have HGF := Lib.hid (HG.out f HFM.out)
    have HNF := Lib.hid (HN.out f HFM.out)
    have HY := Lib.hid hy
    have KP := Lib.hid kp
    have KV := Lib.hid kv
    have KB := Lib.hid kb
    have HFF := Lib.hid (show funcL f = ([[[102, 117, 110, 99], f.name, f.result]] ++ varsL [112, 97, 114, 97, 109] f.params ++ varsL [118, 97, 114] f.vars) ++ f.blocks.flatMap blockL from rfl)
    have HTQ := Lib.hid (show (joinV ((fs.take q).flatMap funcL)).length + (joinV (funcL f)).length ≤ 1099511627776 by have := flat_fit (f := funcL) hy (l := []) (n := 1099511627776) (by simpa using HT.out); simpa using this)
    obtain ⟨Tq, hTq⟩ : ∃ T, joinV ((fs.take q).flatMap funcL) = T := ⟨_, rfl⟩
    have HTE := Lib.hid hTq
    rw [hTq] at HTQ HS
    have HTS := Lib.hid (show (joinV (funcL f)).length = (joinV [[[102, 117, 110, 99], f.name, f.result]]).length + (joinV (varsL [112, 97, 114, 97, 109] f.params)).length + (joinV (varsL [118, 97, 114] f.vars)).length + (joinV (f.blocks.flatMap blockL)).length by rw [HFF.out, joinV_app, joinV_app, joinV_app, List.length_append, List.length_append, List.length_append])
    obtain ⟨gf, hgf⟩ : ∃ g, wr.heap.size = g := ⟨_, rfl⟩
    obtain ⟨Wf, hWf⟩ : ∃ Wf, wr.alloc (.cells #[str f.name, str f.result, .slice P1 f.params.length c1, .slice P2 f.vars.length c2, .slice P3 f.blocks.length c3] 37) = Wf := ⟨_, rfl⟩
    have HE := Lib.hid (show wr.heap.size = gf ∧ wr.alloc (.cells #[str f.name, str f.result, .slice P1 f.params.length c1, .slice P2 f.vars.length c2, .slice P3 f.blocks.length c3] 37) = Wf from ⟨hgf, hWf⟩)
    have HOF := Lib.hid (show Mem.Own Wf gf 37 [str f.name, str f.result, .slice P1 f.params.length c1, .slice P2 f.vars.length c2, .slice P3 f.blocks.length c3] by rw [← hWf, ← hgf]; exact Mem.Own.made wr _ _)
    have HBf := Lib.hid (show Below wr.heap.size wr Wf by rw [← hWf]; exact (Below.refl _ _).alloc (Nat.le_refl _) _)
    have HKf := Lib.hid (KN.trans HS.out.kn (KN.below HBf.out))
    have HSf := Lib.hid (HS.out.below HBf.out).base
    clear hy hcs1 kp kv kb hTq hgf hWf HS HBf
    have QP := Lib.hid (fun (W5 : World) (hW5 : (Wf.alloc (.cells #[.string ⟨#[102, 117, 110, 99]⟩, str f.name, str f.result] 9)).drew = W5) => have hb5 : Below Wf.heap.size Wf W5 := by rw [← hW5]; exact ((Below.refl _ _).alloc (Nat.le_refl _) _).drew
      (put6_any (w := W5) Tq [[102, 117, 110, 99], f.name, f.result] (HSf.out.below hb5).out (lit_row_d (w' := W5) [[102, 117, 110, 99], f.name, f.result] Wf.heap.size Wf.heap.size _ rfl hW5 rfl (Nat.le_refl _) (by simp)) (HSf.out.below hb5).sz (by have := HTQ.out; have := HTS.out; omega) (by simp)).mono (R' := fun e w' => ∃ v', e = .returned v' ∧ Sc w.heap.size w Wf (Tq ++ joinV [[[102, 117, 110, 99], f.name, f.result]]) v' w') (by rintro e w6 ⟨v6, rfl, h6, hb6, hk6⟩; exact ⟨v6, rfl, (HSf.out.below hb5).more h6 hb6 hk6⟩))
    have QV1 := Lib.hid (fun (W6 : World) (v6 : Value) (hs : Sc w.heap.size w Wf (Tq ++ joinV [[[102, 117, 110, 99], f.name, f.result]]) v6 W6) =>
      (vars6_any (w := W6) (lo := lo) (hi := hi) (Tq ++ joinV [[[102, 117, 110, 99], f.name, f.result]]) [112, 97, 114, 97, 109] f.params hs.out (Vars.move (Still.of_below (hs.low.mono hh)) KP.out) hh hs.sz (by rw [List.length_append]; have := HTQ.out; have := HTS.out; omega)).mono (R' := fun e w' => ∃ v', e = .returned v' ∧ Sc w.heap.size w Wf (Tq ++ joinV [[[102, 117, 110, 99], f.name, f.result]] ++ joinV (varsL [112, 97, 114, 97, 109] f.params)) v' w') (by rintro e w7 ⟨v7, rfl, h7, hb7, hk7⟩; exact ⟨v7, rfl, hs.more h7 hb7 hk7⟩))
    have QV2 := Lib.hid (fun (W6 : World) (v6 : Value) (hs : Sc w.heap.size w Wf (Tq ++ joinV [[[102, 117, 110, 99], f.name, f.result]] ++ joinV (varsL [112, 97, 114, 97, 109] f.params)) v6 W6) =>
      (vars6_any (w := W6) (lo := lo) (hi := hi) (Tq ++ joinV [[[102, 117, 110, 99], f.name, f.result]] ++ joinV (varsL [112, 97, 114, 97, 109] f.params)) [118, 97, 114] f.vars hs.out (Vars.move (Still.of_below (hs.low.mono hh)) KV.out) hh hs.sz (by rw [List.length_append, List.length_append]; have := HTQ.out; have := HTS.out; omega)).mono (R' := fun e w' => ∃ v', e = .returned v' ∧ Sc w.heap.size w Wf (Tq ++ joinV [[[102, 117, 110, 99], f.name, f.result]] ++ joinV (varsL [112, 97, 114, 97, 109] f.params) ++ joinV (varsL [118, 97, 114] f.vars)) v' w') (by rintro e w7 ⟨v7, rfl, h7, hb7, hk7⟩; exact ⟨v7, rfl, hs.more h7 hb7 hk7⟩))
    go_upto_region 17 with fail
    rw [HE.out.2, HE.out.1]
    clear m0 m1 m2 m3 m4 p4
    go_region_held3 (fun w' => w'.cell? ⟨gf, 0, none⟩ = some (str f.name) ∧ w'.cell? ⟨gf, 1, none⟩ = some (str f.result) ∧ w'.cell? ⟨gf, 2, none⟩ = some (.slice P1 f.params.length c1) ∧ w'.cell? ⟨gf, 3, none⟩ = some (.slice P2 f.vars.length c2))
      (first | exact four_kn HOF.out (KN.refl _) (by decide) | exact four_kn HOF.out (KN.below (Below.refl _ _).drew) (by decide) | exact four_kn HOF.out (KN.below (((Below.refl _ _).alloc (Nat.le_refl _) _).drew)) (by decide) | exact four_kn HOF.out (KN.below ((Below.refl _ _).alloc (Nat.le_refl _) _)) (by decide) | exact four_kn HOF.out hs8.kn (by decide) | exact four_kn HOF.out hs7.kn (by decide) | exact four_kn HOF.out hs6.kn (by decide))
      (first | (go_at_call 16; (refine (QP.out _ rfl).mono ?_); rintro e w6 ⟨v6, rfl, hs6⟩) | (go_at_call 17; (with_reducible refine (QV1.out _ _ hs6).mono ?_); rintro e w7 ⟨v7, rfl, hs7⟩) | (go_at_call 17; (with_reducible refine (QV2.out _ _ hs7).mono ?_); rintro e w8 ⟨v8, rfl, hs8⟩))
    obtain ⟨Lf, hLf⟩ : ∃ Lf, Tq ++ joinV [[[102, 117, 110, 99], f.name, f.result]] ++ joinV (varsL [112, 97, 114, 97, 109] f.params) ++ joinV (varsL [118, 97, 114] f.vars) = Lf := ⟨_, rfl⟩
    have HLf := Lib.hid (show Lf ++ joinV (f.blocks.flatMap blockL) = joinV ((fs.take (q + 1)).flatMap funcL) by
      have h9 := flat_step (f := funcL) HY.out []
      rw [List.nil_append, List.nil_append] at h9
      rw [h9, HTE.out, HFF.out, joinV_app, joinV_app, joinV_app, ← hLf]
      simp only [List.append_assoc])
    have HTL := Lib.hid (show Lf.length + (joinV (f.blocks.flatMap blockL)).length ≤ 1099511627776 by
      rw [← hLf]
      simp only [List.length_append]
      have := HTQ.out
      have := HTS.out
      omega)
    rw [hLf] at hs8
    have HS8 := Lib.hid (hs8.as (show Lf = Lf ++ joinV ((f.blocks.take 0).flatMap blockL) from (joinV_none Lf).symm))
    clear hs6 hs7 hs8 hLf QP QV1 QV2
    have z4 := (HS8.out.kn.own HOF.out (by decide)).cell 4
    simp only [List.getElem?_cons_zero, List.getElem?_cons_succ] at z4
    go_wp2_with fail
    go_loopw [3, 8] (fun ov kv wr => ∃ k : Nat, k ≤ f.blocks.length ∧ kv = .int .i64 k ∧ Hid (Sc w.heap.size w Wf (Lf ++ joinV ((f.blocks.take k).flatMap blockL)) ov wr)) (fun _ kv _ => f.blocks.length - (intOf kv).toNat)
    case atStart => exact ⟨0, Nat.zero_le _, rfl, HS8⟩
    case round =>
    clear HS8 z4
    obtain ⟨k, hk, rfl, HS⟩ := hrel
    have z4 := (HS.out.kn.own HOF.out (by decide)).cell 4
    simp only [List.getElem?_cons_zero, List.getElem?_cons_succ] at z4
    by_cases hkt : k < f.blocks.length
    · obtain ⟨b, hx⟩ : ∃ y, f.blocks[k]? = some y := ⟨_, List.getElem?_eq_getElem hkt⟩
      obtain ⟨b3, o3, rfl, hb3, cs3, hcl3, hcs3, x1, x2, cs4, e4, kph, kco, x4, e5, kto⟩ := row_at6 KB.out hx
      subst e5
      subst e4
      obtain ⟨A5, k5, rfl⟩ := Row.form kph
      obtain ⟨A6, k6, rfl⟩ := Row.form kco
      obtain ⟨A7, k7, rfl⟩ := Row.form kto
      obtain ⟨m0, m1, m2, m3, m4, m5, m6, m7, m8⟩ := at9 (cells_later hcs3 (HS.out.low.mono hh) hb3)
      have hpl : b.phis.length ≤ 4611686018427387903 := by obtain ⟨_, _, _, h, _⟩ := Row.get kph; exact h
      have hcl : b.code.length ≤ 4611686018427387903 := by obtain ⟨_, _, _, h, _⟩ := Row.get kco; exact h
      have HBM := Lib.hid (List.mem_of_getElem? hx)
      have HGB := Lib.hid (HGF.out.2.2.2 b HBM.out)
      have HNB := Lib.hid (block_cnt HBM.out HNF.out)
      have KPH := Lib.hid kph
      have KCO := Lib.hid kco
      have KTO := Lib.hid kto
      have HTK := Lib.hid (flat_fit (f := blockL) hx HTL.out)
      have HTN := Lib.hid (flat_step (f := blockL) hx Lf)
      obtain ⟨Tb, hTb⟩ : ∃ T, Lf ++ joinV ((f.blocks.take k).flatMap blockL) = T := ⟨_, rfl⟩
      rw [hTb] at HS HTK HTN
      have HBS := Lib.hid (show (joinV (blockL b)).length = (joinV [[[98, 108, 111, 99, 107], b.name]]).length + (joinV (b.phis.map phiW)).length + (joinV (b.code.flatMap codeL)).length + (joinV (endsL b.fin)).length by unfold blockL; rw [joinV_app, joinV_app, joinV_app, List.length_append, List.length_append, List.length_append])
      have HBT := Lib.hid (show Tb ++ joinV [[[98, 108, 111, 99, 107], b.name]] ++ joinV (b.phis.map phiW) ++ joinV (b.code.flatMap codeL) ++ joinV (endsL b.fin) = Tb ++ joinV (blockL b) by unfold blockL; rw [joinV_app, joinV_app, joinV_app]; simp only [List.append_assoc])
      obtain ⟨gb, hgb⟩ : ∃ g, wr.heap.size = g := ⟨_, rfl⟩
      obtain ⟨Wb, hWb⟩ : ∃ Wb, wr.alloc (.cells #[str b.name, .slice A5 b.phis.length k5, .slice A6 b.code.length k6, i64 b.fin.kind, i64 b.fin.a.kind, str b.fin.a.s, i64 b.fin.a.n, .slice A7 b.fin.dest.length k7, i64 b.fin.n] 60) = Wb := ⟨_, rfl⟩
      have HEb := Lib.hid (show wr.heap.size = gb ∧ wr.alloc (.cells #[str b.name, .slice A5 b.phis.length k5, .slice A6 b.code.length k6, i64 b.fin.kind, i64 b.fin.a.kind, str b.fin.a.s, i64 b.fin.a.n, .slice A7 b.fin.dest.length k7, i64 b.fin.n] 60) = Wb from ⟨hgb, hWb⟩)
      have HOB := Lib.hid (show Mem.Own Wb gb 60 [str b.name, .slice A5 b.phis.length k5, .slice A6 b.code.length k6, i64 b.fin.kind, i64 b.fin.a.kind, str b.fin.a.s, i64 b.fin.a.n, .slice A7 b.fin.dest.length k7, i64 b.fin.n] by rw [← hWb, ← hgb]; exact Mem.Own.made wr _ _)
      have HBb := Lib.hid (show Below wr.heap.size wr Wb by rw [← hWb]; exact (Below.refl _ _).alloc (Nat.le_refl _) _)
      have HKb := Lib.hid (KN.trans HS.out.kn (KN.below HBb.out))
      have HSb := Lib.hid (HS.out.below HBb.out).base
      clear hx hcs3 kph kco kto hTb hgb hWb HS HBb
      have QP := Lib.hid (fun (W5 : World) (hW5 : Wb.alloc (.cells #[.string ⟨#[98, 108, 111, 99, 107]⟩, str b.name] 9) = W5) => have hb5 : Below Wb.heap.size Wb W5 := by rw [← hW5]; exact (Below.refl _ _).alloc (Nat.le_refl _) _
        (put6_any (w := W5) Tb [[98, 108, 111, 99, 107], b.name] (HSb.out.below hb5).out (lit_row (w' := W5) [[98, 108, 111, 99, 107], b.name] Wb.heap.size Wb.heap.size _ rfl hW5 rfl (Nat.le_refl _) (by simp)) (HSb.out.below hb5).sz (by have := HTK.out; have := HBS.out; omega) (by simp)).mono (R' := fun e w' => ∃ v', e = .returned v' ∧ Sc w.heap.size w Wb (Tb ++ joinV [[[98, 108, 111, 99, 107], b.name]]) v' w') (by rintro e w6 ⟨v6, rfl, h6, hb6, hk6⟩; exact ⟨v6, rfl, (HSb.out.below hb5).more h6 hb6 hk6⟩))
      go_upto_region 22 with fail
      rw [HEb.out.2, HEb.out.1]
      clear m0 m1 m2 m3 m4 m5 m6 m7 m8 z4
      have y0 := HOB.out.cell 0
      simp only [List.getElem?_cons_zero] at y0
      go_wp2_with fail
      refine (QP.out _ rfl).mono ?_
      rintro e w6 ⟨v6, rfl, hs6⟩
      obtain ⟨Lb, hLb⟩ : ∃ T, Tb ++ joinV [[[98, 108, 111, 99, 107], b.name]] = T := ⟨_, rfl⟩
      rw [hLb] at hs6 HBT
      have HTB := Lib.hid (show Lb.length + (joinV (b.phis.map phiW)).length + (joinV (b.code.flatMap codeL)).length + (joinV (endsL b.fin)).length ≤ 1099511627776 by rw [← hLb, List.length_append]; have := HTK.out; have := HBS.out; omega)
      have HS6 := Lib.hid (hs6.as (show Lb = Lb ++ joinV ((b.phis.map phiW).take 0) from (joinV_none Lb).symm))
      clear hs6 hLb QP y0
      have y1 := (HS6.out.kn.own HOB.out (by decide)).cell 1
      simp only [List.getElem?_cons_zero, List.getElem?_cons_succ] at y1
      go_wp2_with fail
      go_loopw [3, 10] (fun ov jv wr => ∃ j : Nat, j ≤ b.phis.length ∧ jv = .int .i64 j ∧ Hid (Sc w.heap.size w Wb (Lb ++ joinV ((b.phis.map phiW).take j)) ov wr)) (fun _ jv _ => b.phis.length - (intOf jv).toNat)
      case atStart => exact ⟨0, Nat.zero_le _, rfl, HS6⟩
      case round =>
      clear HS6 y1
      obtain ⟨j, hj, rfl, HS⟩ := hrel
      obtain ⟨Wp, hWp⟩ : ∃ Wp, Wp = wr := ⟨_, rfl⟩
      subst hWp
      have hgw : gb < Wp.heap.size := (HS.out.kn.own HOB.out (by decide)).lt
      have y1 := (HS.out.kn.own HOB.out (by decide)).cell 1
      simp only [List.getElem?_cons_zero, List.getElem?_cons_succ] at y1
      by_cases hjt : j < b.phis.length
      · obtain ⟨p, hxp⟩ : ∃ y, b.phis[j]? = some y := ⟨_, List.getElem?_eq_getElem hjt⟩
        obtain ⟨b7, o7, rfl, hb7, cs7, hcl7, hcs7, u7, rfl, kin⟩ := row_at6 KPH.out hxp
        obtain ⟨A9, k9, rfl⟩ := Row.form kin
        obtain ⟨n0, n1⟩ := at2 (cells_later hcs7 (HS.out.low.mono hh) hb7)
        have HC7 := Lib.hid hcs7
        have KIN := Lib.hid kin
        have HPW := Lib.hid (show (b.phis.map phiW)[j]? = some (phiW p) by rw [List.getElem?_map, hxp]; rfl)
        have hvl : p.ins.length ≤ 1000000 := ins_cnt (List.mem_of_getElem? hxp) HNB.out
        have HGP := Lib.hid (HGB.out.2.1 p (List.mem_of_getElem? hxp))
        obtain ⟨Wl, hWl⟩ : ∃ Wl, Wp.alloc (.cells #[.string ⟨#[112, 104, 105]⟩, str p.dst] 9) = Wl := ⟨_, rfl⟩
        have HB0 := Lib.hid (show Below Wp.heap.size Wp Wl by rw [← hWl]; exact (Below.refl _ _).alloc (Nat.le_refl _) _)
        have HF0 := Lib.hid (show Wl.ownsRow Wp.heap.size 9 1 (.slice (some ⟨Wp.heap.size, 0, none⟩) 2 2) ([[112, 104, 105], p.dst] ++ (p.ins.take 0).flatMap bindW).length (([[112, 104, 105], p.dst] ++ (p.ins.take 0).flatMap bindW).map str) from lit_row (w' := Wl) [[112, 104, 105], p.dst] Wp.heap.size Wp.heap.size _ rfl hWl rfl (Nat.le_refl _) (by simp))
        have HWl := Lib.hid hWl
        have hfl := flat_len
        clear hxp hcs7 kin hWl
        go_wp2_with fail
        rw [HWl.out]
        clear y1 n0 n1
        go_loopw [11, 12] (fun wv nv wr => ∃ n : Nat, n ≤ p.ins.length ∧ nv = .int .i64 n ∧ Hid (wr.ownsRow Wp.heap.size 9 1 wv ([[112, 104, 105], p.dst] ++ (p.ins.take n).flatMap bindW).length (([[112, 104, 105], p.dst] ++ (p.ins.take n).flatMap bindW).map str)) ∧ Hid (Below Wp.heap.size Wp wr)) (fun _ nv _ => p.ins.length - (intOf nv).toNat)
        case atStart => exact ⟨0, Nat.zero_le _, rfl, HF0, HB0⟩
        case round =>
        clear HF0 HB0
        obtain ⟨n, hn, rfl, HFk, HBk⟩ := hrel
        have hsk : Wp.heap.size ≤ wr.heap.size := HBk.out.size
        have HOb := Lib.hid ((HS.out.kn.own HOB.out (by decide)).below HBk.out hgw)
        have HLo := Lib.hid (HS.out.low.trans (HBk.out.mono HS.out.sz))
        have y1 := HOb.out.cell 1
        simp only [List.getElem?_cons_zero, List.getElem?_cons_succ] at y1
        obtain ⟨n0, n1⟩ := at2 (cells_later HC7.out (HLo.out.mono hh) hb7)
        by_cases hnt : n < p.ins.length
        · obtain ⟨z, hz⟩ : ∃ z, p.ins[n]? = some z := ⟨_, List.getElem?_eq_getElem hnt⟩
          obtain ⟨b4, o4, rfl, hb4, cs4, hcl4, hcs4, rfl⟩ := row_at6 KIN.out hz
          obtain ⟨p0, p1, p2, p3⟩ := at4 (cells_later hcs4 (HLo.out.mono hh) hb4)
          have HC4 := Lib.hid hcs4
          have HGZ := Lib.hid (HGP.out.2 z (List.mem_of_getElem? hz))
          have QA := Lib.hid (fun (W' : World) => R03.put_at z.a.kind ⟨z.a.s.toArray⟩ z.a.n (argW z.a) HGZ.out.2.1.2 (by have := HGZ.out.2.2; show z.a.s.toArray.size ≤ _; simp; unfold OpenP.strG at this; omega) rfl W')
          have HST := Lib.hid (show [[112, 104, 105], p.dst] ++ (p.ins.take (n + 1)).flatMap bindW = [[112, 104, 105], p.dst] ++ (p.ins.take n).flatMap bindW ++ [z.name, argW z.a] by
            rw [flat_next bindW hz, List.append_assoc]; rfl)
          have HLF := Lib.hid (show ([[112, 104, 105], p.dst] ++ (p.ins.take n).flatMap bindW).length + [z.name, argW z.a].length ≤ 2000000000 by rw [List.length_append, flat_len, List.length_take]; simp; omega)
          have QS := Lib.hid (fun (W' : World) (h : Below Wp.heap.size Wp W') => (show W'.cell? ⟨gb, 1, none⟩ = some (.slice (some ⟨b7, o7, none⟩) b.phis.length k5) ∧ W'.cell? ⟨b7, o7 + j * 2 + 1, none⟩ = some (.slice (some ⟨b4, o4, none⟩) p.ins.length k9) ∧ W'.cell? ⟨b4, o4 + n * 4, none⟩ = some (str z.name) ∧ W'.cell? ⟨b4, o4 + n * 4 + 1, none⟩ = some (i64 z.a.kind) ∧ W'.cell? ⟨b4, o4 + n * 4 + 2, none⟩ = some (str z.a.s) ∧ W'.cell? ⟨b4, o4 + n * 4 + 3, none⟩ = some (i64 z.a.n) from ⟨((HS.out.kn.own HOB.out (by decide)).below h hgw).cell 1, (at2 (cells_later HC7.out ((HS.out.low.trans (h.mono HS.out.sz)).mono hh) hb7)).2, at4 (cells_later HC4.out ((HS.out.low.trans (h.mono HS.out.sz)).mono hh) hb4)⟩))
          clear hz hcs4
          go_upto_region 30 with fail
          go_region_held3 (fun w' => (w'.cell? ⟨gb, 1, none⟩ = some (.slice (some ⟨b7, o7, none⟩) b.phis.length k5) ∧ w'.cell? ⟨b7, o7 + j * 2 + 1, none⟩ = some (.slice (some ⟨b4, o4, none⟩) p.ins.length k9) ∧ w'.cell? ⟨b4, o4 + n * 4, none⟩ = some (str z.name) ∧ w'.cell? ⟨b4, o4 + n * 4 + 1, none⟩ = some (i64 z.a.kind) ∧ w'.cell? ⟨b4, o4 + n * 4 + 2, none⟩ = some (str z.a.s) ∧ w'.cell? ⟨b4, o4 + n * 4 + 3, none⟩ = some (i64 z.a.n)) ∧ Hid (Below Wp.heap.size Wp w'))
            (first | exact ⟨QS.out _ HBk.out.drew, Lib.hid HBk.out.drew⟩ | exact ⟨QS.out _ HBk.out, HBk⟩ | exact ⟨QS.out _ (HBk.out.drew.trans (hb6.mono hsk)), Lib.hid (HBk.out.drew.trans (hb6.mono hsk))⟩ | exact ⟨QS.out _ ((HBk.out.drew.trans (hb6.mono hsk)).alloc (Nat.le_trans hsk hb6.size) _), Lib.hid ((HBk.out.drew.trans (hb6.mono hsk)).alloc (Nat.le_trans hsk hb6.size) _)⟩ | exact ⟨QS.out _ ((HBk.out.drew.trans (hb6.mono hsk)).grown hg9 (Nat.le_trans hsk hb6.size) (fun k hk => ((row_later HFk.out.drew hb6).lt k hk).1)), Lib.hid ((HBk.out.drew.trans (hb6.mono hsk)).grown hg9 (Nat.le_trans hsk hb6.size) (fun k hk => ((row_later HFk.out.drew hb6).lt k hk).1))⟩)
            (first | (go_at_call 19; (with_reducible refine (QA.out _).mono ?_); rintro e w6 ⟨rfl, hb6⟩) | (refine step_words rfl _ _ 41 rfl Tryd.underlying41 str_info _ _ rfl (row_later HFk.out.drew hb6) [z.name, argW z.a] _ rfl _ _ rfl rfl rfl HLF.out (Nat.le_trans hsk hb6.size) ?_; intro v9 w9 hown9 hg9))
          have HF9 := Lib.hid (show w9.ownsRow Wp.heap.size 9 1 v9 ([[112, 104, 105], p.dst] ++ (p.ins.take (n + 1)).flatMap bindW).length (([[112, 104, 105], p.dst] ++ (p.ins.take (n + 1)).flatMap bindW).map str) by rw [HST.out]; exact hown9)
          have HB9 := Lib.hid ((HBk.out.drew.trans (hb6.mono hsk)).grown hg9 (Nat.le_trans hsk hb6.size) (fun k hk => ((row_later HFk.out.drew hb6).lt k hk).1))
          go_wp2_with fail
          go_roundw
          case rel => exact ⟨n + 1, by omega, by go_num, HF9, HB9⟩
          case measure => simp [intOf]; omega
        · obtain rfl : n = p.ins.length := by omega
          have hwf := HFk.out
          rw [List.take_length] at hwf
          have HSw := Lib.hid (HS.out.below HBk.out)
          have QP := Lib.hid ((put6_any (w := wr) _ (phiW p) HSw.out.out hwf HSw.out.sz (lines_fit HPW.out (by have := HTB.out; omega)) (by show ([[112, 104, 105], p.dst] ++ p.ins.flatMap bindW).length ≤ _; rw [List.length_append, flat_len]; simp; omega)).mono (R' := fun e w' => ∃ v', e = .returned v' ∧ Sc w.heap.size w Wb (Lb ++ joinV ((b.phis.map phiW).take (j + 1))) v' w') (by rintro e w6 ⟨v6, rfl, h6, hb6, hk6⟩; exact ⟨v6, rfl, (HSw.out.more h6 hb6 hk6).as (lines_step HPW.out Lb).symm⟩))
          clear hwf
          go_wp2_with fail
          with_reducible refine QP.out.mono ?_
          rintro e w7 ⟨v7, rfl, hs7⟩
          have HS7 := Lib.hid hs7
          clear hs7
          go_wp2_with fail
          go_roundw
          case rel => exact ⟨j + 1, by omega, by go_num, HS7⟩
          case measure => simp [intOf]; omega
      · obtain rfl : j = b.phis.length := by omega
        obtain ⟨Lc, hLc⟩ : ∃ T, Lb ++ joinV (b.phis.map phiW) = T := ⟨_, rfl⟩
        have HSc := Lib.hid (HS.out.as (show Lb ++ joinV ((b.phis.map phiW).take b.phis.length) = Lc ++ joinV ((b.code.take 0).flatMap codeL) by rw [List.take_of_length_le (by simp), hLc]; exact (joinV_none Lc).symm))
        rw [hLc] at HBT
        have HTC := Lib.hid (show Lc.length + (joinV (b.code.flatMap codeL)).length + (joinV (endsL b.fin)).length ≤ 1099511627776 by rw [← hLc, List.length_append]; have := HTB.out; omega)
        clear hLc HS hjt hj
        have y2 := (HSc.out.kn.own HOB.out (by decide)).cell 2
        simp only [List.getElem?_cons_zero, List.getElem?_cons_succ] at y2
        go_wp2_with fail
        go_loopw [3, 13] (fun ov jv wr => ∃ j : Nat, j ≤ b.code.length ∧ jv = .int .i64 j ∧ Hid (Sc w.heap.size w Wb (Lc ++ joinV ((b.code.take j).flatMap codeL)) ov wr)) (fun _ jv _ => b.code.length - (intOf jv).toNat)
        case atStart => exact ⟨0, Nat.zero_le _, rfl, HSc⟩
        case round =>
        clear HSc y2
        obtain ⟨j, hj, rfl, HS⟩ := hrel
        have HOb := Lib.hid (HS.out.kn.own HOB.out (by decide))
        have y2 := HOb.out.cell 2
        simp only [List.getElem?_cons_zero, List.getElem?_cons_succ] at y2
        by_cases hjt : j < b.code.length
        · obtain ⟨x, hxc⟩ : ∃ y, b.code[j]? = some y := ⟨_, List.getElem?_eq_getElem hjt⟩
          obtain ⟨b6, o6, rfl, hb6, cs6, hcl6, hcs6, v1, v2, v3, rfl, j1, j2, j3⟩ := row_at6 KCO.out hxc
          obtain ⟨n0, n1, n2, n3, n4, n5⟩ := at6 (cells_later hcs6 (HS.out.low.mono hh) hb6)
          have hxm := List.mem_of_getElem? hxc
          have HXS := Lib.hid (flat_step (f := codeL) hxc Lc)
          have QC := Lib.hid ((show Calls Tryd.prog 20 #[_, .agg #[i64 x.op, str x.dst, str x.name, v1, v2, v3]] wr _ from code6_any (w := wr) (lo := lo) (hi := hi) (B := w.heap.size) _ [i64 x.op, str x.dst, str x.name, v1, v2, v3] x (InstrC.move (Still.of_below (HS.out.low.mono hh)) ⟨_, _, _, rfl, j1, j2, j3⟩) HS.out.out hh HS.out.sz (laid_keep HLW.out HS.out.low hgl) hgl (HGB.out.2.2.1 x hxm) (code_cnt hxm HNB.out) (flat_fit (f := codeL) hxc (by have := HTC.out; omega))).mono (R' := fun e w' => ∃ v', e = .returned v' ∧ Sc w.heap.size w Wb (Lc ++ joinV ((b.code.take (j + 1)).flatMap codeL)) v' w') (by rintro e w6 ⟨v6, rfl, h6, hb6, hk6⟩; exact ⟨v6, rfl, (HS.out.more h6 hb6 hk6).as HXS.out.symm⟩))
          clear hxc hcs6 j1 j2 j3 hxm
          go_wp2_with fail
          with_reducible refine QC.out.mono ?_
          rintro e w7 ⟨v7, rfl, hs7⟩
          have HS7 := Lib.hid hs7
          clear hs7
          go_wp2_with fail
          go_roundw
          case rel => exact ⟨j + 1, by omega, by go_num, HS7⟩
          case measure => simp [intOf]; omega
        · obtain rfl : j = b.code.length := by omega
          have HSd := Lib.hid (HS.out.as (show Lc ++ joinV ((b.code.take b.code.length).flatMap codeL) = Lc ++ joinV (b.code.flatMap codeL) by rw [List.take_length]))
          have y3 := HOb.out.cell 3
          have y4 := HOb.out.cell 4
          have y5 := HOb.out.cell 5
          have y6 := HOb.out.cell 6
          have y7 := HOb.out.cell 7
          have y8 := HOb.out.cell 8
          simp only [List.getElem?_cons_zero, List.getElem?_cons_succ] at y3 y4 y5 y6 y7 y8
          have QE := Lib.hid ((show Calls Tryd.prog 21 #[_, .agg #[i64 b.fin.kind, i64 b.fin.a.kind, str b.fin.a.s, i64 b.fin.a.n, .slice A7 b.fin.dest.length k7, i64 b.fin.n]] wr _ from ends6_any (w := wr) (lo := lo) (hi := hi) (B := w.heap.size) _ [i64 b.fin.kind, i64 b.fin.a.kind, str b.fin.a.s, i64 b.fin.a.n, .slice A7 b.fin.dest.length k7, i64 b.fin.n] b.fin (TermC.move (Still.of_below (HSd.out.low.mono hh)) ⟨_, rfl, KTO.out⟩) HSd.out.out hh HSd.out.sz HGB.out.2.2.2 (dest_cnt HNB.out) (by rw [List.length_append]; have := HTC.out; omega)).mono (R' := fun e w' => ∃ v', e = .returned v' ∧ Sc w.heap.size w Wf (Lf ++ joinV ((f.blocks.take (k + 1)).flatMap blockL)) v' w') (by rintro e w6 ⟨v6, rfl, h6, hb6, hk6⟩; exact ⟨v6, rfl, ((HSd.out.more h6 hb6 hk6).as (HBT.out.trans HTN.out.symm)).wide HKb.out⟩))
          clear HS
          go_wp2_with fail
          with_reducible refine QE.out.mono ?_
          rintro e w7 ⟨v7, rfl, hs7⟩
          have HS7 := Lib.hid hs7
          clear hs7
          go_wp2_with fail
          go_roundw
          case rel => exact ⟨k + 1, by omega, by go_num, HS7⟩
          case measure => simp [intOf]; omega
    · obtain rfl : k = f.blocks.length := by omega
      have HS9 := Lib.hid ((HS.out.as (show Lf ++ joinV ((f.blocks.take f.blocks.length).flatMap blockL) = joinV ((fs.take (q + 1)).flatMap funcL) by rw [List.take_length]; exact HLf.out)).wide HKf.out)
      clear HS
      go_wp2_with fail
      go_roundw
      case rel => exact ⟨q + 1, by omega, by go_num, HS9⟩
      case measure => simp [intOf]; omega
  · obtain rfl : q = fs.length := by omega
    have HSE := Lib.hid (HS.out.as (show joinV ((fs.take fs.length).flatMap funcL) = joinV (fs.flatMap funcL) by rw [List.take_length]))
    have hcv := own_string (P := Tryd.prog) wr 53 9 5 Tryd.underlying53 Tryd.underlying5 Tryd.underlying9 (joinV (fs.flatMap funcL)) h0 HSE.out.out
    go_wp2_with fail
    go_ret
    exact ⟨rfl, HSE.out.low⟩
end Go.Proofs.YtdgmdpphimenjaaDoor.Ln6

/-
  Layer 6: how long a function's lines are at most. Plain.
-/
namespace Go.Proofs.YtdgmdpphimenjaaDoor.Ln6
open Go.RowKit Api Syn WordM
open LinesM hiding Wd

theorem wc_args {l : List Arg} (h : ∀ a ∈ l, NumM.In a.n) : wc (argsL l) ≤ 22 * Few6.cArgs l := by
  unfold wc argsL Few6.cArgs
  rw [sumOf_map]
  have := sumOf_add (f := fun x => (argW x).length + 1) (g := fun a : Arg => a.s.length) (c := 1) (d := 22) (l := l) (fun x hx => by have := argW_le (h x hx); omega)
  omega
theorem wc_binds {l : List Bind} (h : ∀ b ∈ l, NumM.In b.a.n) : wc (l.flatMap bindW) ≤ 23 * Few6.sumOf Few6.cBind l := by
  unfold wc
  rw [sumOf_flat]
  refine sumOf_mul (fun b hb => ?_)
  have h1 := argW_le (h b hb)
  have h2 : Few6.sumOf (fun x : Wd => x.length + 1) (bindW b) = b.name.length + 1 + ((argW b.a).length + 1) := by unfold bindW; rw [sumOf_cons, sumOf_cons]; rfl
  rw [h2]
  unfold Few6.cBind
  omega
theorem lc_map {α : Type} (f : α → List Wd) (l : List α) : lc (l.map f) = Few6.sumOf (fun x => wc (f x) + 1) l := by unfold lc; rw [sumOf_map]
theorem lc_flat {α : Type} (f : α → List (List Wd)) (l : List α) : lc (l.flatMap f) = Few6.sumOf (fun x => lc (f x)) l := by unfold lc; rw [sumOf_flat]
theorem wc_frame {f : Api.Frame} (h : OpenP.frameG f) : wc (frameW f) ≤ 23 * Few6.cFrame f + 26 := by
  have h1 := wc_binds (l := f.vars) fun b hb => (h.2.2 b hb).2.1.2
  have h2 := dec_le h.2.1
  unfold frameW
  rw [wc_app, wc_cons, wc_cons, wc_cons, wc_cons, wc_nil]
  have h3 : ([97, 116] : Wd).length = 2 := rfl
  unfold Few6.cFrame
  omega
theorem wc_obj {o : Virt} (h : OpenP.virtG o) : wc (objW o) ≤ 22 * Few6.cVirt o + 5 := by
  have h1 := wc_args (l := o.vals) fun a ha => (h.2 a ha).1.2
  unfold objW
  rw [wc_app, wc_cons, wc_cons, wc_nil]
  have h3 : ([111, 98, 106] : Wd).length = 3 := rfl
  unfold Few6.cVirt
  omega
theorem word_len (op : Int) : (formV op).1.word.length ≤ 6 := by
  unfold formV
  split
  · exact Nat.zero_le _
  · by_cases h : op.toNat < 35
    · have hall : ∀ k ∈ List.range 35, (Syn.opWords.getD k []).length ≤ 6 := by decide +kernel
      exact hall _ (List.mem_range.2 h)
    · have hl : Syn.opWords.length ≤ 35 := by decide +kernel
      show (Syn.opWords.getD op.toNat []).length ≤ 6
      rw [List.getD_eq_getElem?_getD, List.getElem?_eq_none (by omega)]
      exact Nat.zero_le _
theorem wc_head {x : Instr} (h : OpenP.instrG x) : wc (headL x) ≤ x.dst.length + x.name.length + 14 + 22 * Few6.cArgs x.args := by
  have h1 := wc_args (l := x.args) fun a ha => (h.2.1 a ha).1.2
  have h2 : wc (if (formV x.op).1.dst = true then [x.dst, ([61] : Wd)] else []) ≤ x.dst.length + 3 := by
    split
    · rw [wc_cons, wc_cons, wc_nil]
      have : ([61] : Wd).length = 1 := rfl
      omega
    · exact Nat.zero_le _
  have h3 := word_len x.op
  have h4 : wc (if (x.op = 26 ∨ x.op = 27) ∧ 0 < x.args.length then argsL (x.args.take 1) ++ [x.name] ++ argsL (x.args.drop 1) else (if (formV x.op).1.named = true then [x.name] else []) ++ argsL x.args) ≤ x.name.length + 1 + wc (argsL x.args) := by
    split
    · have e : wc (argsL x.args) = wc (argsL (x.args.take 1)) + wc (argsL (x.args.drop 1)) := by
        rw [← wc_app]
        unfold argsL
        rw [← List.map_append, List.take_append_drop]
      rw [wc_app, wc_app, wc_cons, wc_nil, e]
      omega
    · rw [wc_app]
      have : wc (if (formV x.op).1.named = true then [x.name] else []) ≤ x.name.length + 1 := by
        split
        · rw [wc_cons, wc_nil]; omega
        · exact Nat.zero_le _
      omega
  unfold headL
  rw [wc_app, wc_app, wc_cons, wc_nil]
  omega
theorem lc_code {x : Instr} (h : OpenP.instrG x) : lc (codeL x) ≤ 27 * Few6.cInstr x := by
  have h1 := wc_head h
  have h2 : Few6.sumOf (fun f => wc (frameW f) + 1) x.frames ≤ 23 * Few6.sumOf Few6.cFrame x.frames + 27 * x.frames.length := sumOf_add fun f hf => by have := wc_frame (h.2.2.1 f hf); omega
  have h3 : Few6.sumOf (fun o => wc (objW o) + 1) x.objs ≤ 22 * Few6.sumOf Few6.cVirt x.objs + 6 * x.objs.length := sumOf_add fun o ho => by have := wc_obj (h.2.2.2 o ho); omega
  unfold codeL
  rw [lc_app, lc_app, lc_cons, lc_nil, lc_map, lc_map]
  unfold Few6.cInstr
  omega
theorem lc_ends {t : Api.Term} (h : OpenP.termG t) : lc (endsL t) ≤ 51 + t.a.s.length + Few6.sumOf Few6.cText t.dest := by
  unfold endsL
  split
  · exact Nat.zero_le _
  · have h1 := argW_le h.2.1.1.2
    have h2 := dec_le h.2.2.2
    have h3 : (endWd t.kind).length ≤ 6 := by unfold endWd; repeat' split
                                              all_goals decide
    have h4 : wc (if t.kind = 2 ∨ t.kind = 3 then [argW t.a] else []) ≤ t.a.s.length + 22 := by
      split
      · rw [wc_cons, wc_nil]; omega
      · exact Nat.zero_le _
    have h5 : wc (if t.kind = 4 then [NumM.dec t.n] else []) ≤ 21 := by
      split
      · rw [wc_cons, wc_nil]; omega
      · exact Nat.zero_le _
    have h6 : wc t.dest = Few6.sumOf Few6.cText t.dest := by unfold wc Few6.cText; congr 1; funext x; omega
    rw [lc_cons, lc_nil]
    unfold endW
    rw [wc_app, wc_app, wc_app, wc_cons, wc_nil]
    omega
theorem wc_phi {p : Phi} (h : OpenP.phiG p) : wc (phiW p) + 1 ≤ 23 * Few6.cPhi p := by
  have h1 := wc_binds (l := p.ins) fun b hb => (h.2 b hb).2.1.2
  unfold phiW
  rw [wc_app, wc_cons, wc_cons, wc_nil]
  have h3 : ([112, 104, 105] : Wd).length = 3 := rfl
  unfold Few6.cPhi
  omega
theorem lc_block {b : Api.Block} (h : OpenP.blockG b) : lc (blockL b) ≤ 60 * Few6.cBlock b := by
  have h1 : Few6.sumOf (fun p => wc (phiW p) + 1) b.phis ≤ 23 * Few6.sumOf Few6.cPhi b.phis := sumOf_mul fun p hp => wc_phi (h.2.1 p hp)
  have h2 : Few6.sumOf (fun x => lc (codeL x)) b.code ≤ 27 * Few6.sumOf Few6.cInstr b.code := sumOf_mul fun x hx => lc_code (h.2.2.1 x hx)
  have h3 := lc_ends h.2.2.2
  unfold blockL
  rw [lc_app, lc_app, lc_app, lc_cons, lc_nil, lc_map, lc_flat, wc_cons, wc_cons, wc_nil]
  have h4 : ([98, 108, 111, 99, 107] : Wd).length = 5 := rfl
  unfold Few6.cBlock
  omega
theorem lc_vars {first : Wd} (h : first.length ≤ 6) (l : List Var) : lc (varsL first l) ≤ 10 * Few6.cVars l := by
  unfold varsL
  rw [lc_map]
  have := sumOf_add (f := fun x => wc (varW first x) + 1) (g := Few6.cVar) (c := 1) (d := 10) (l := l) (fun x _ => by
    unfold varW Few6.cVar
    rw [wc_cons, wc_cons, wc_cons, wc_nil]
    omega)
  unfold Few6.cVars
  omega
theorem lc_func {f : Api.Func} (h : OpenP.funcG f) : lc (funcL f) ≤ 60 * Few6.cFunc f := by
  have h1 : Few6.sumOf (fun b => lc (blockL b)) f.blocks ≤ 60 * Few6.sumOf Few6.cBlock f.blocks := sumOf_mul fun b hb => lc_block (h.2.2.2 b hb)
  have h2 := lc_vars (first := [112, 97, 114, 97, 109]) (by decide) f.params
  have h3 := lc_vars (first := [118, 97, 114]) (by decide) f.vars
  unfold funcL
  rw [lc_app, lc_app, lc_app, lc_cons, lc_nil, lc_flat, wc_cons, wc_cons, wc_cons, wc_nil]
  have h4 : ([102, 117, 110, 99] : Wd).length = 4 := rfl
  unfold Few6.cFunc
  omega
theorem one_fit {f : Api.Func} (h : OpenP.funcG f) (hN : Few6.cFunc f ≤ 20000) : (joinV ([f].flatMap funcL)).length ≤ 1099511627776 := by
  have h1 := joinV_lc ([f].flatMap funcL)
  have h2 := lc_func h
  rw [show [f].flatMap funcL = funcL f by simp] at *
  omega
theorem one_some (f : Api.Func) : joinV ([f].flatMap funcL) ≠ [] := by
  rw [show [f].flatMap funcL = funcL f by simp]
  unfold funcL
  rw [List.append_assoc, List.append_assoc, joinV_app, joinV_one]
  simp
end Go.Proofs.YtdgmdpphimenjaaDoor.Ln6

/-
  What stays, though what was answered is written into: rows of names of the call's own; a function as a program's only one.
-/
namespace Go.Proofs.YtdgmdpphimenjaaDoor.Ln6
open Go.RowKit Api Syn WordM Mem
open LinesM hiding Wd

theorem own_spoilt {w : World} {base n : Nat} {e : TypeId} {v : Value} {xs : List Value} (h : w.ownsRow base e 1 v n xs) (g i : Nat) (u : Value) : ∃ xs', (w.setCell ⟨g, i, none⟩ u).ownsRow base e 1 v n xs' := by
  rcases h.2 with ⟨rfl, h0⟩ | ⟨k, cap, cur, rfl, hb, hg, h1, h2, h3, h4⟩
  · exact ⟨xs, h.1, .inl ⟨rfl, h0⟩⟩
  · by_cases e1 : k = g
    · subst e1
      have o : Mem.Own w k e cur.toList := by unfold Mem.Own; simpa using hg
      have o2 := o.store i u
      refine ⟨(cur.toList.set i u).take (n * 1), ?_, .inr ⟨k, cap, (cur.toList.set i u).toArray, rfl, hb, o2, h1, h2, ?_, ?_⟩⟩
      · rw [List.length_take, List.length_set, Array.length_toList, h3]; omega
      · simpa using h3
      · simp
    · exact ⟨xs, h.1, .inr ⟨k, cap, cur, rfl, hb, (Below.heap_setCell _ _ _ _ e1).trans hg, h1, h2, h3, h4⟩⟩
/-- rows of names of the call's own, whatever stands in them. -/
def RowsW (w : World) (base Bv n : Nat) : Prop := ∃ vs : List Value, Mem.Own w Bv 41 vs ∧ vs.length = n ∧ base ≤ Bv ∧ ∀ i, i < n → ∃ v m xs, vs[i]? = some v ∧ w.ownsRow base 9 1 v m xs
theorem RowsW.of {Q : Nat → Wd → Prop} {w : World} {base Bv n : Nat} (h : Lv12.RowsQ Q w base Bv n n) : RowsW w base Bv n := by
  obtain ⟨vs, h1, h2, h3, h4⟩ := h
  exact ⟨vs, h1, h2, h3, fun i hi => by obtain ⟨v, r, q1, _, _, q4⟩ := h4 i hi; exact ⟨v, _, _, q1, q4⟩⟩
theorem RowsW.at {w : World} {base Bv n i : Nat} (h : RowsW w base Bv n) (hi : i < n) : ∃ A m c xs, w.cell? ⟨Bv, i, none⟩ = some (.slice A m c) ∧ w.ownsRow base 9 1 (.slice A m c) m xs := by
  obtain ⟨vs, h1, h2, h3, h4⟩ := h
  obtain ⟨v, m, xs, q1, q2⟩ := h4 i hi
  rcases q2.2 with ⟨rfl, rfl⟩ | ⟨k, cap, cur, rfl, _⟩
  · exact ⟨none, 0, 0, xs, (h1.cell i).trans q1, q2⟩
  · exact ⟨_, m, cap, xs, (h1.cell i).trans q1, q2⟩
theorem RowsW.spoil {w : World} {base Bv n i : Nat} (h : RowsW w base Bv n) (hi : i < n) {A : Option Addr} {m c : Nat} (hc : w.cell? ⟨Bv, i, none⟩ = some (.slice A m c)) {k : Nat} (hk : k < m) : ∃ g u, A = some ⟨g, 0, none⟩ ∧ base ≤ g ∧ g < w.heap.size ∧ w.cell? ⟨g, k, none⟩ = some u ∧ w.frozen? ⟨g, k, none⟩ = false ∧ ∀ s, RowsW (w.setCell ⟨g, k, none⟩ s) base Bv n ∧ (w.setCell ⟨g, k, none⟩ s).cell? ⟨Bv, i, none⟩ = some (.slice A m c) := by
  obtain ⟨vs, h1, h2, h3, h4⟩ := h
  obtain ⟨v, m', xs, q1, q2⟩ := h4 i hi
  have e : v = .slice A m c := by
    have := (h1.cell i).trans q1
    rw [hc] at this
    exact (Option.some.inj this).symm
  subst e
  rcases q2.2 with ⟨e, h0⟩ | ⟨g, cap, cur, e, hb, hg, hn1, hn2, hn3, hn4⟩
  · simp only [Value.slice.injEq] at e
    omega
  · simp only [Value.slice.injEq] at e
    obtain ⟨rfl, rfl, rfl⟩ := e
    have hne : Bv ≠ g := fun e => by
      subst e
      have h5 := h1
      unfold Mem.Own at h5
      rw [hg] at h5
      simp only [Option.some.injEq, Obj.cells.injEq] at h5
      exact absurd h5.2.1 (by decide)
    have hlt : k < xs.length := by rw [q2.1]; omega
    refine ⟨g, xs[k], rfl, hb, (Array.getElem?_eq_some_iff.1 hg).1, ?_, q2.frozenAt k, fun s => ⟨⟨vs, (Below.heap_setCell _ _ _ _ hne).trans h1, h2, h3, fun j hj => ?_⟩, ?_⟩⟩
    · rw [q2.cellAt k (by omega)]
      exact List.getElem?_eq_getElem hlt
    · obtain ⟨v2, m2, xs2, r1, r2⟩ := h4 j hj
      obtain ⟨xs3, r3⟩ := own_spoilt r2 g k s
      exact ⟨v2, m2, xs3, r1, r3⟩
    · have o2 : Mem.Own (w.setCell ⟨g, k, none⟩ s) Bv 41 vs := (Below.heap_setCell _ _ _ _ hne).trans h1
      exact (o2.cell i).trans ((h1.cell i).symm.trans hc)
theorem row_one6 {α : Type} {hi size : Nat} {w : World} {g : Nat} {t : TypeId} {cs : List Value} {P : List Value → α → Prop} {x : α} (o : Mem.Own w g t cs) (hg : g < hi) (hs : cs.length = size) (hp : P cs x) : Row 0 hi w size P (.slice (some ⟨g, 0, none⟩) 1 1) [x] := by
  refine ⟨_, 1, 1, g, 0, rfl, rfl, ⟨by omega, by omega⟩, fun _ => ⟨rfl, Nat.zero_le _, hg⟩, fun i y hy => ?_⟩
  match i, hy with
  | 0, hy =>
    obtain rfl : x = y := by simpa using hy
    refine ⟨cs, hs, fun j u hj => ?_, hp⟩
    have e : (⟨g, 0 + 0 * size + j, none⟩ : Addr) = ⟨g, j, none⟩ := by simp
    rw [e, o.cell j]
    exact hj
  | i + 1, hy => simp at hy
/-- the lines of a program with one function alone. -/
theorem lines_one {hi : Nat} {w : World} {g : Nat} {cs : List Value} (f : Api.Func) (o : Mem.Own w g 37 cs) (hg : g < hi) (hf : FuncC 0 hi w cs f) (hh : hi ≤ w.heap.size) (hL : R05.Laid w) (hG : OpenP.funcG f) (hN : Few6.cFunc f ≤ 20000) :
    Calls Tryd.prog 7 #[.agg #[.bool false, .slice none 0 0, .slice none 0 0, .slice none 0 0, .slice (some ⟨g, 0, none⟩) 1 1]] w fun e w' => e = .returned (str (joinV ([f].flatMap funcL))) ∧ Below w.heap.size w w' := by
  have hc : cs.length = 5 := by obtain ⟨_, _, _, rfl, _⟩ := hf; rfl
  exact lines1_any [f] (row_one6 o hg hc hf) hh hL (fun x hx => by rw [List.mem_singleton] at hx; subst hx; exact hG) (fun x hx => by rw [List.mem_singleton] at hx; subst hx; omega) (one_fit hG hN) (one_some f)
end Go.Proofs.YtdgmdpphimenjaaDoor.Ln6
