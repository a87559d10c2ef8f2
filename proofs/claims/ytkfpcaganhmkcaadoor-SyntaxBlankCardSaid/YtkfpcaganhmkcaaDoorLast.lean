/-
  Package syntax: lastFunc, lastBlock, lastInstr, lengthen.
-/
import Derived.Test.YtkfpcaganhmkcaaDoorSt
namespace Go.Proofs.YtkfpcaganhmkcaaDoor.Rd5
open Go.RowKit Api Hold Mem Syn WordM Tree

variable {w w' w1 w2 : World} {lo hi rb base N : Nat} {rc : RC} {v : Value} {l ws : List Wd} {row : Option Nat} {a : Tree.Act} {D : List Rec} {p : Prog}
/-- Only the count of draws has turned. -/
def SameH (w w' : World) : Prop := w'.heap = w.heap ∧ w'.os = w.os ∧ w'.tape = w.tape ∧ w'.output = w.output
theorem SameH.refl (w : World) : SameH w w := ⟨rfl, rfl, rfl, rfl⟩
theorem SameH.trans (h : SameH w w1) (h2 : SameH w1 w2) : SameH w w2 := ⟨h2.1.trans h.1, h2.2.1.trans h.2.1, h2.2.2.1.trans h.2.2.1, h2.2.2.2.trans h.2.2.2⟩
theorem SameH.grown (h : SameH w w') (row : Option Nat) : w.grownBy w' row := ⟨h.2.1, h.2.2.1, h.2.2.2, by rw [h.1]; exact Nat.le_refl _, fun k _ _ => by rw [h.1]⟩
theorem SameH.drew (h : SameH w w') : SameH w w'.drew := ⟨h.1, h.2.1, h.2.2.1, h.2.2.2⟩
theorem SameH.drewN (w : World) (n : Nat) : SameH w (w.drewN n) := ⟨rfl, rfl, rfl, rfl⟩
theorem SameH.st (h : SameH w w') (hS : St w base rb lo hi rc a D p N ws) : St w' base rb lo hi rc a D p N ws :=
  hS.keep ((congrArg (·[rb]?) h.1).trans hS.own) (h.grown _) rfl rfl rfl rfl rfl rfl
theorem SameH.cell (h : SameH w w') {q : Addr} {u : Value} (hc : w.cell? q = some u) : w'.cell? q = some u := (World.cell?_of_block (by rw [h.1])).trans hc
theorem SameH.thaw (h : SameH w w') {q : Addr} {u : Bool} (hc : w.frozen? q = u) : w'.frozen? q = u := (World.frozen?_of_block (by rw [h.1])).trans hc

/-- The last thing of a row that has some: where it lies. -/
theorem row_at {r : Rec} {n : Nat} (h : r.on w base) (hn : r.n = n) (h0 : n ≠ 0) : ∃ m g cap, n = m + 1 ∧ r.v = .slice (some ⟨g, 0, none⟩) (m + 1) cap ∧ base ≤ g ∧ g < w.heap.size ∧ (∀ j u, r.cs[j]? = some u → w.cell? ⟨g, j, none⟩ = some u) ∧ (∀ j, w.frozen? ⟨g, j, none⟩ = false) ∧ n ≤ 9223372036854775807 := by
  obtain ⟨g, cap, cur, e, hb, hg, _, _, hm⟩ := h.at (by omega)
  refine ⟨n - 1, g, cap, by omega, by rw [e, hn]; congr 1; omega, hb, (Array.getElem?_eq_some_iff.1 hg).1, fun j u hj => h.cell e hj, fun j => h.thaw e j, by omega⟩

set_option maxHeartbeats 1000000 in
theorem lastFunc_any {g m cap : Nat} (hc : w.cell? ⟨rb, 4, none⟩ = some (.slice (some ⟨g, 0, none⟩) (m + 1) cap)) (hm : m + 1 ≤ 9223372036854775807) :
    Calls Tryd.prog 123 #[ptr rb] w fun e w' => e = .returned (.pointer (some ⟨g, m * 5, none⟩)) ∧ SameH w w' := by
  go_enter Tryd.func123, Tryd.ntmps123
  go_wp2
  go_quiet (fail)
  go_wp2
  go_ret
  exact ⟨rfl, SameH.drewN _ _⟩

set_option maxHeartbeats 1000000 in
theorem lastBlock_any {g m cap g2 m2 cap2 : Nat} (hc : w.cell? ⟨rb, 4, none⟩ = some (.slice (some ⟨g, 0, none⟩) (m + 1) cap)) (hm : m + 1 ≤ 9223372036854775807) (hc2 : w.cell? ⟨g, m * 5 + 4, none⟩ = some (.slice (some ⟨g2, 0, none⟩) (m2 + 1) cap2)) (hm2 : m2 + 1 ≤ 9223372036854775807) :
    Calls Tryd.prog 125 #[ptr rb] w fun e w' => e = .returned (.pointer (some ⟨g2, m2 * 9, none⟩)) ∧ SameH w w' := by
  have Q := Lib.hid (lastFunc_any hc hm)
  have HC2 := Lib.hid hc2
  clear hc hc2
  go_enter Tryd.func125, Tryd.ntmps125
  go_wp2_with (go_at_call 123; (with_reducible refine (Q.out).mono ?_); rintro e w1 ⟨rfl, hs⟩; have c2 := hs.cell HC2.out; have HS := Lib.hid hs; clear hs)
  go_quiet (fail)
  go_wp2
  go_ret
  exact ⟨rfl, HS.out.trans (SameH.drewN _ _)⟩
set_option maxHeartbeats 1000000 in
theorem lastInstr_any {g m cap g2 m2 cap2 g3 m3 cap3 : Nat} (hc : w.cell? ⟨rb, 4, none⟩ = some (.slice (some ⟨g, 0, none⟩) (m + 1) cap)) (hm : m + 1 ≤ 9223372036854775807) (hc2 : w.cell? ⟨g, m * 5 + 4, none⟩ = some (.slice (some ⟨g2, 0, none⟩) (m2 + 1) cap2)) (hm2 : m2 + 1 ≤ 9223372036854775807)
    (hc3 : w.cell? ⟨g2, m2 * 9 + 2, none⟩ = some (.slice (some ⟨g3, 0, none⟩) (m3 + 1) cap3)) (hm3 : m3 + 1 ≤ 9223372036854775807) :
    Calls Tryd.prog 129 #[ptr rb] w fun e w' => e = .returned (.pointer (some ⟨g3, m3 * 6, none⟩)) ∧ SameH w w' := by
  have Q := Lib.hid (lastBlock_any hc hm hc2 hm2)
  have HC3 := Lib.hid hc3
  clear hc hc2 hc3
  go_enter Tryd.func129, Tryd.ntmps129
  go_wp2_with (go_at_call 125; (with_reducible refine (Q.out).mono ?_); rintro e w1 ⟨rfl, hs⟩; have c3 := hs.cell HC3.out; have HS := Lib.hid hs; clear hs)
  go_quiet (fail)
  go_wp2
  go_ret
  exact ⟨rfl, HS.out.trans (SameH.drewN _ _)⟩

/-! ### where the last function, block, instruction lie -/
theorem last_of {α : Type} {l init : List α} {x z : α} (h : l = init ++ [x]) : l.getLast?.getD z = x := by rw [h]; simp
theorem func_path (h : St w base rb lo hi rc a D p N ws) (hne : p.funcs ≠ []) : ∃ m g cap, p.funcs.length = m + 1 ∧ a.U.v = .slice (some ⟨g, 0, none⟩) (m + 1) cap ∧ base ≤ g ∧ g < w.heap.size ∧ m + 1 ≤ 9223372036854775807 ∧
    w.cell? ⟨g, m * 5 + 2, none⟩ = some a.R.v ∧ w.cell? ⟨g, m * 5 + 3, none⟩ = some a.V.v ∧ w.cell? ⟨g, m * 5 + 4, none⟩ = some a.B.v ∧ (∀ j, w.frozen? ⟨g, j, none⟩ = false) ∧ QFunc a D [str (p.funcs.getLast?.getD funcZ).name, str (p.funcs.getLast?.getD funcZ).result, a.R.v, a.V.v, a.B.v] (p.funcs.getLast?.getD funcZ) := by
  have hu := h.bld.sh.u
  obtain ⟨init, x, c, e, _, hq, hc⟩ := hu.at hne
  obtain ⟨m, g, cap, e1, e2, h1, h2, h3, h4, h5⟩ := row_at (h.on (r := a.U) (by simp [Act.l])) hu.2.2.1 (fun e => hne (List.length_eq_zero_iff.1 e))
  have hl := last_of (z := funcZ) e
  rw [e1, Nat.add_sub_cancel] at hc
  have hq1 := hq.1
  refine ⟨m, g, cap, e1, e2, h1, h2, by omega, h3 _ _ (hc 2 _ (by rw [hq1]; rfl)), h3 _ _ (hc 3 _ (by rw [hq1]; rfl)), h3 _ _ (hc 4 _ (by rw [hq1]; rfl)), h4, ?_⟩
  rw [hl, ← hq1]
  exact hq
theorem block_path (h : St w base rb lo hi rc a D p N ws) (hne : p.funcs ≠ []) (hnb : (p.funcs.getLast?.getD funcZ).blocks ≠ []) : ∃ m g cap, (p.funcs.getLast?.getD funcZ).blocks.length = m + 1 ∧ a.B.v = .slice (some ⟨g, 0, none⟩) (m + 1) cap ∧ base ≤ g ∧ g < w.heap.size ∧ m + 1 ≤ 9223372036854775807 ∧
    w.cell? ⟨g, m * 9 + 1, none⟩ = some a.H.v ∧ w.cell? ⟨g, m * 9 + 2, none⟩ = some a.K.v ∧ (∀ j, w.frozen? ⟨g, j, none⟩ = false) ∧ ∃ c2, QBlock a D (str ((p.funcs.getLast?.getD funcZ).blocks.getLast?.getD blockZ).name :: a.H.v :: a.K.v :: c2) ((p.funcs.getLast?.getD funcZ).blocks.getLast?.getD blockZ) ∧
    ∀ j u, c2[j]? = some u → w.cell? ⟨g, m * 9 + 3 + j, none⟩ = some u := by
  obtain ⟨_, _, _, _, _, _, _, _, _, _, _, _, hq⟩ := func_path h hne
  obtain ⟨_, _, _, hb⟩ := hq
  obtain ⟨init, x, c, e, _, hqb, hc⟩ := hb.at hnb
  obtain ⟨m, g, cap, e1, e2, h1, h2, h3, h4, h5⟩ := row_at (h.on (r := a.B) (by simp [Act.l])) hb.2.2.1 (fun e => hnb (List.length_eq_zero_iff.1 e))
  have hl := last_of (z := blockZ) e
  rw [e1, Nat.add_sub_cancel] at hc
  obtain ⟨c2, hq1, hq2⟩ := hqb
  refine ⟨m, g, cap, e1, e2, h1, h2, by omega, h3 _ _ (hc 1 _ (by rw [hq1]; rfl)), h3 _ _ (hc 2 _ (by rw [hq1]; rfl)), h4, c2, ?_, fun j u hj => ?_⟩
  · rw [hl]
    exact ⟨c2, rfl, hq2⟩
  · have := h3 _ _ (hc (3 + j) u (by rw [hq1, Nat.add_comm 3 j]; exact hj))
    rw [← this]
    congr 2
    omega
theorem instr_path (h : St w base rb lo hi rc a D p N ws) (hne : p.funcs ≠ []) (hnb : (p.funcs.getLast?.getD funcZ).blocks ≠ []) (hnc : ((p.funcs.getLast?.getD funcZ).blocks.getLast?.getD blockZ).code ≠ []) :
    ∃ m g cap, ((p.funcs.getLast?.getD funcZ).blocks.getLast?.getD blockZ).code.length = m + 1 ∧ a.K.v = .slice (some ⟨g, 0, none⟩) (m + 1) cap ∧ base ≤ g ∧ g < w.heap.size ∧ m + 1 ≤ 9223372036854775807 ∧
    w.cell? ⟨g, m * 6 + 4, none⟩ = some a.M.v ∧ w.cell? ⟨g, m * 6 + 5, none⟩ = some a.O.v ∧ (∀ j, w.frozen? ⟨g, j, none⟩ = false) := by
  obtain ⟨_, _, _, _, _, _, _, _, _, _, _, c2, hq, _⟩ := block_path h hne hnb
  obtain ⟨_, _, _, hk, _⟩ := hq
  obtain ⟨init, x, c, e, _, hqb, hc⟩ := hk.at hnc
  obtain ⟨m, g, cap, e1, e2, h1, h2, h3, h4, h5⟩ := row_at (h.on (r := a.K) (by simp [Act.l])) hk.2.2.1 (fun e => hnc (List.length_eq_zero_iff.1 e))
  rw [e1, Nat.add_sub_cancel] at hc
  obtain ⟨u, hq1, hq2⟩ := hqb
  exact ⟨m, g, cap, e1, e2, h1, h2, by omega, h3 _ _ (hc 4 _ (by rw [hq1]; rfl)), h3 _ _ (hc 5 _ (by rw [hq1]; rfl)), h4⟩

theorem class_path (h : St w base rb lo hi rc a D p N ws) (hne : p.classes ≠ []) : ∃ m g cap, p.classes.length = m + 1 ∧ a.C.v = .slice (some ⟨g, 0, none⟩) (m + 1) cap ∧ base ≤ g ∧ g < w.heap.size ∧ m + 1 ≤ 9223372036854775807 ∧
    w.cell? ⟨g, m * 2 + 1, none⟩ = some a.F.v ∧ (∀ j, w.frozen? ⟨g, j, none⟩ = false) := by
  have hu := h.bld.sh.c
  obtain ⟨init, x, c, e, _, hq, hc⟩ := hu.at hne
  obtain ⟨m, g, cap, e1, e2, h1, h2, h3, h4, h5⟩ := row_at (h.on (r := a.C) (by simp [Act.l])) hu.2.2.1 (fun e => hne (List.length_eq_zero_iff.1 e))
  rw [e1, Nat.add_sub_cancel] at hc
  have hq1 := hq.1
  exact ⟨m, g, cap, e1, e2, h1, h2, by omega, h3 _ _ (hc 1 _ (by rw [hq1]; rfl)), h4⟩
theorem ap_ne {A B : List Rec} {r x : Rec} {k : Nat} (h : Apart w base (A ++ r :: B)) (hx : x ∈ A ++ B) (hk : x.v.ownBlock = some k) : some k ≠ r.v.ownBlock := by
  rcases (ap_front h).other hx with e | e
  · rw [hk] at e; cases e
  · rw [← hk]; exact e
/-- a cell of another row than the one that has grown. -/
theorem grew_cell {t : TypeId} {cs : List Value} {r : Rec} {v' : Value} {news : List Value} {g q : Nat} {u : Value} (G : Grew (w.alloc (.cells cs.toArray t)) w' base r v' news) (hg : g < w.heap.size) (hne : some g ≠ r.v.ownBlock) (hc : w.cell? ⟨g, q, none⟩ = some u) (hz : w.frozen? ⟨g, q, none⟩ = false) :
    w'.cell? ⟨g, q, none⟩ = some u ∧ w'.frozen? ⟨g, q, none⟩ = false ∧ g < w'.heap.size := by
  have hb : w'.heap[g]? = w.heap[g]? := (G.grow.block g (by simp; omega) hne).trans (heap_alloc_old w _ hg)
  exact ⟨(World.cell?_of_block (a := ⟨g, q, none⟩) hb).trans hc, (World.frozen?_of_block (a := ⟨g, q, none⟩) hb).trans hz, by have := G.grow.size; simp at this; omega⟩
theorem grown_cell {g q : Nat} {u : Value} (hg : w.grownBy w' (some rb)) (hne : g ≠ rb) (hc : w.cell? ⟨g, q, none⟩ = some u) (hz : w.frozen? ⟨g, q, none⟩ = false) : w'.cell? ⟨g, q, none⟩ = some u ∧ w'.frozen? ⟨g, q, none⟩ = false ∧ g < w'.heap.size := by
  have hlt := World.block_lt_of_cell? w _ hc
  have hb : w'.heap[g]? = w.heap[g]? := hg.block g hlt (by intro e; injection e with e; exact hne e)
  exact ⟨(World.cell?_of_block (a := ⟨g, q, none⟩) hb).trans hc, (World.frozen?_of_block (a := ⟨g, q, none⟩) hb).trans hz, by have := hg.size; have : g < w.heap.size := hlt; omega⟩
/-- words were taken, a row has grown, its value was stored into the row ahead of it, limit was asked. -/
theorem inner_end {r : Rec} {v' : Value} {news : List Value} {t : TypeId} {cs : List Value} {a2 : Tree.Act} {D2 : List Rec} {p2 : Prog} {M g q : Nat} {w3 : World} (hT : St w1 base rb lo hi rc a D p N l) (hg : w.grownBy w1 (some rb)) (hw : base ≤ w.heap.size) (hr : r ∈ a.l) (G : Grew (w1.alloc (.cells cs.toArray t)) w2 base r v' news)
    (hb : Build (w2.setCell ⟨g, q, none⟩ v') base a2 D2 p2 M) (hgb : base ≤ g) (h3 : (w2.setCell ⟨g, q, none⟩ v').grownBy w3 (some rb)) : Beside base rb w w3 ∧ Beside base rb w1 w3 ∧ Build w3 base a2 D2 p2 M := by
  have hr2 := (hT.on hr)
  have b1 : Beside base rb w1 (w1.alloc (.cells cs.toArray t)) := (Beside.refl base rb w1).grow (World.grownBy_alloc w1 _ none) hT.high (by simp)
  have b2 : Beside base rb w1 w2 := b1.grow G.grow hT.high fun _ hk => .inl (hr2.lt hk).1
  have b3 : Beside base rb w1 (w2.setCell ⟨g, q, none⟩ v') := b2.set (p := ⟨g, q, none⟩) (.inl hgb) v'
  have b4 : Beside base rb w1 w3 := b3.grow h3 hT.high fun _ hk => by injection hk with hk; exact .inr hk.symm
  exact ⟨(Beside.of_grown hg hw).trans b4, b4, rb_grown hb hT.mid h3⟩
set_option maxHeartbeats 1000000 in
theorem lengthen_any (hO : OwnR w rb rc) (hl : 0 ≤ rc.long ∧ rc.long ≤ 1000000) :
    Calls Tryd.prog 126 #[ptr rb] w fun e w' => e = .returned (.tuple #[]) ∧ OwnR w' rb { rc with long := rc.long + 1, over := rc.over || decide (1024 < rc.long + 1) } ∧ w.grownBy w' (some rb) := by
  obtain ⟨f6, z6, l6⟩ := own_at6 hO
  have ho2 : OwnR (w.setCell ⟨rb, 6, none⟩ (i64 (rc.long + 1))) rb { rc with long := rc.long + 1 } := hO.store 6 _
  have HO2 := Lib.hid ho2
  have hl1 := hl.1
  have hl2 := hl.2
  clear hO ho2 hl
  go_enter Tryd.func126, Tryd.ntmps126
  go_wp2_with (go_at_call 119; (with_reducible refine (limit_any _ _ HO2.out).mono ?_); rintro e w3 ⟨rfl, ho3, hg3, _⟩; have HO3 := Lib.hid ho3; have HG3 := Lib.hid hg3; clear ho3 hg3)
  go_end0
  exact ⟨rfl, HO3.out, (gr_set_row (gr_refl _ _) rfl _).trans HG3.out⟩
end Go.Proofs.YtkfpcaganhmkcaaDoor.Rd5
