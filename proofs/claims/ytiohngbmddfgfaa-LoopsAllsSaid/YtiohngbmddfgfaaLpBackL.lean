/-
  Layer 11: the law's back: the document's loops of the program's.
-/
import Derived.Test.YtiohngbmddfgfaaLpSame
import Derived.StillTailTactics
namespace Go.Proofs.Ytiohngbmddfgfaa.Lp11
open Go.RowKit Api Mem Fl9 Dm10

theorem info_rloop : (Try.prog.info? 35).map (fun i => (i.zero, i.size, i.bytes)) = some (some (.agg #[.int .i64 0, .slice none 0 0, .slice none 0 0]), 3, 56) := by kernel_rfl
theorem take_nxL {L : List LpT} {k : Nat} {x : LpT} (h : L[k]? = some x) : L.take (k + 1) = L.take k ++ [x] := by
  obtain ⟨h1, h2⟩ := List.getElem?_eq_some_iff.1 h
  rw [List.take_succ_eq_append_getElem h1, h2]
/-- 'append' of one element laid in a new block, as an equation. -/
theorem run_grow {P : Program} {w : World} {R : List Hold.Rec} (t ty : TypeId) (base : Nat) (r : Hold.Rec) (i : TypeInfo) (z : Value) (bytes : Nat) (ht : P.underlying t = some (.slice r.t)) (hi : P.info? r.t = some i) (hz : i.zero = some z)
    (hsize : i.size = r.size) (hby : i.bytes = bytes) (hzs : z.cells.size = r.size) (hsz : 0 < r.size) (hown : Hold.Apart w base (r :: R))
    (news : List Value) (hl : news.length = r.size) (h1 : ∀ u ∈ news, u.oneCell' = true) (h63 : r.n + 1 ≤ 9223372036854775807) (hbytes : (r.n + 1) * bytes ≤ 140737488355328) (hbase : base ≤ w.heap.size) :
    ∃ v' w', (Builtin.append_ #[t, t] ty #[r.v, .slice (some ⟨w.heap.size, 0, none⟩) 1 1]).run P (w.alloc (.cells news.toArray r.t)) = .ok v' w' ∧ Hold.Apart w' base (⟨r.t, r.size, v', r.n + 1, r.cs ++ news⟩ :: R) ∧ Below base w w' := by
  have ho2 : (w.alloc (.cells news.toArray r.t)).ownsRow base r.t r.size r.v r.n r.cs := World.ownsRow.alloc hown.head _
  have hnews : ∀ j u, news[j]? = some u → (w.alloc (.cells news.toArray r.t)).cell? ((⟨w.heap.size, 0, none⟩ : Addr).add j) = some u := by
    intro j u hu
    have e1 : (⟨w.heap.size, 0, none⟩ : Addr).add j = ⟨w.heap.size, j, none⟩ := by unfold Addr.add; split <;> simp_all
    rw [e1, (Own.made w r.t news).cell]
    exact hu
  obtain ⟨v', w', hr, h2, h3, _⟩ := run_append_own (P := P) (w.alloc (.cells news.toArray r.t)) base t ty r.t i z r.size bytes ht hi hz hsize hby hzs hsz r.v r.n r.cs ho2 ⟨w.heap.size, 0, none⟩ 1 1 news (by omega) hnews h1 (by unfold maxLen; omega) hbytes (by simp; omega)
  obtain ⟨v2, w2, hr2, h4⟩ := Hold.append_block (P := P) (w.alloc (.cells news.toArray r.t)) base t ty r.t i z ht hi hz r.v r.n r.cs (by rw [hsize]; exact ho2) ⟨w.heap.size, 0, none⟩ 1 1 news (by omega) hnews h1 (by omega) h63 (by rw [hby]; exact hbytes)
  have hb : Below w.heap.size w (w.alloc (.cells news.toArray r.t)) := (Below.refl _ _).alloc (Nat.le_refl _) _
  have e : v2 = v' := by
    rw [hr] at hr2
    injection hr2 with e1 _
    exact e1.symm
  subst e
  have ha := (hown.below hb).grow h3 h2 (by
    rcases h4 with h4 | h4
    · exact .inl h4
    · right; intro k hk; rw [h4] at hk; injection hk with hk; subst hk; exact Nat.le_refl _)
  have hb2 : Below base w w' := (hb.mono hbase).grown h3 (by simp; omega) fun k hk => (World.ownsRow.lt ho2 k hk).1
  exact ⟨v2, w', hr, ha, hb2⟩
theorem step_append_run {P : Program} {ops : Array Oper} {o : Oper} {a : Act} {w : World} {K : Act → World → Prop} {Q : Exit → Act → World → Prop} {E : Prop} (hgd : o.guard = none) (s x : Operand) (t : TypeId)
    (ho : o.op = .call { callee := .builtin .append, args := #[s, x], argTypes := #[t, t] }) (v xv : Value) (hs : a.eval s = v) (hx : a.eval x = xv) {v' : Value} {w' : World} (hrun : (Builtin.append_ #[t, t] o.type #[v, xv]).run P w = .ok v' w') (h : K (a.put o.dst v') w') :
    if Region.wanted o (yielded ops a.tmps) = true then Oper.wp P o a w K Q else E := by
  have hw : Region.wanted o (yielded ops a.tmps) = true := by simp [Region.wanted, hgd]
  rw [if_pos hw]
  unfold Oper.wp execOp
  simp only [ho, resolve, invoke, builtin, Sem.run_bind, Sem.run_pure, Result.andThen_ok, List.map_toArray, List.map_cons, List.map_nil, hs, hx, hrun]
  exact h
/-- what back answers. -/
def BackLP (L : List LpT) (w : World) (e : Ending) (w' : World) : Prop := ∃ v, e = .returned v ∧ LRead 0 w'.heap.size w' v L ∧ Below w.heap.size w w'
set_option maxRecDepth 100000 in
set_option maxHeartbeats 8000000 in
theorem back_any (lo hi : Nat) (w : World) (v : Value) (L : List LpT) (hl : LRead lo hi w v L) (hh : hi ≤ w.heap.size) (hn : L.length ≤ 1000) :
    Calls Try.prog 8 #[v] w (BackLP L w) := by
  obtain ⟨A1, k1, rfl⟩ := Row.form hl
  obtain ⟨il, hl1, hl2, hl3, hl4⟩ := info_parts info_rloop
  have HIL : Hid (Try.prog.info? 35 = some il ∧ il.zero = some (.agg #[.int .i64 0, .slice none 0 0, .slice none 0 0]) ∧ il.size = 3 ∧ il.bytes = 56) := Lib.hid ⟨hl1, hl2, hl3, hl4⟩
  have HL := Lib.hid hl
  clear hl hl1 hl2 hl3 hl4
  go_enter Try.func8, Try.ntmps8
  go_wp2_with fail
  go_loopw [3, 4] (fun va kv wr => ∃ (k : Nat) (vs : List (Value × Value)), k ≤ L.length ∧ kv = .int .i64 k ∧ Hid (vs.length = k ∧ ∀ (i : Nat) (p : Value × Value) (x : LpT), vs[i]? = some p → L[i]? = some x → Ints lo hi w p.1 (casts x.2.1) ∧ Ints lo hi w p.2 (casts x.2.2)) ∧ Hid (Hold.Apart wr w.heap.size [outL 35 va vs (L.take k)]) ∧ Hid (Below w.heap.size w wr)) (fun _ kv _ => L.length - (intOf kv).toNat)
  case atStart => exact ⟨0, [], Nat.zero_le _, rfl, Lib.hid ⟨rfl, fun i p x h => by simp at h⟩, Lib.hid ((Hold.Apart.nil w w.heap.size).empty 35 3), Lib.hid (Below.refl _ _)⟩
  case round =>
  obtain ⟨k, vs, hk, rfl, HI, HA, HBr⟩ := hrel
  have htk : (L.take k).length = k := by rw [List.length_take]; omega
  obtain ⟨Aa, ca, hva⟩ := HA.out.head.form
  simp only [htk] at hva
  subst hva
  by_cases hlt : k < L.length
  · obtain ⟨x, hx⟩ : ∃ x, L[k]? = some x := ⟨_, List.getElem?_eq_getElem hlt⟩
    obtain ⟨b1, o1, rfl⟩ := addr_ofL HL.out (by omega)
    obtain ⟨A3, k3, A4, k4, i3, i4, c1⟩ := lread_at HL.out hx
    obtain ⟨m1, m2, m3⟩ := c1 wr (HBr.out.mono hh)
    have HI34 := Lib.hid (And.intro i3 i4)
    have HNX := Lib.hid (take_nxL hx)
    have HTK := Lib.hid htk
    have HX := Lib.hid hx
    have hbr := HBr.out.size
    have HAd := Lib.hid (show Hold.Apart wr.drew w.heap.size [outL 35 (.slice Aa k ca) vs (L.take k)] from ⟨HA.out.1, HA.out.2⟩)
    have hbd : w.heap.size ≤ wr.drew.heap.size := hbr
    obtain ⟨v8, w8, hrun, hA8, hB8⟩ := run_grow (P := Try.prog) (R := []) 26 26 w.heap.size (outL 35 (.slice Aa k ca) vs (L.take k)) il _ 56 Try.underlying26 HIL.out.1 HIL.out.2.1 HIL.out.2.2.1 HIL.out.2.2.2 rfl (by show 0 < 3; omega) HAd.out [i64 (x.1 : Int), .slice A3 x.2.1.length k3, .slice A4 x.2.2.length k4] rfl (by intro u hu; simp only [List.mem_cons, List.not_mem_nil, or_false] at hu; rcases hu with rfl | rfl | rfl <;> rfl) (by show (L.take k).length + 1 ≤ _; have := HTK.out; omega) (by show ((L.take k).length + 1) * 56 ≤ _; have := HTK.out; omega) hbd
    have hrun : (Builtin.append_ #[26, 26] 26 #[.slice Aa k ca, .slice (some ⟨wr.heap.size, 0, none⟩) 1 1]).run Try.prog (wr.alloc (.cells #[i64 (x.1 : Int), .slice A3 x.2.1.length k3, .slice A4 x.2.2.length k4] 35)).drew = .ok v8 w8 := hrun
    have HA8 := Lib.hid hA8
    have HB8 := Lib.hid (HBr.out.drew.trans hB8)
    have HNI := Lib.hid (show (vs ++ [((.slice A3 x.2.1.length k3 : Value), (.slice A4 x.2.2.length k4 : Value))]).length = k + 1 ∧ ∀ (i : Nat) (p : Value × Value) (y : LpT), (vs ++ [((.slice A3 x.2.1.length k3 : Value), (.slice A4 x.2.2.length k4 : Value))])[i]? = some p → L[i]? = some y → Ints lo hi w p.1 (casts y.2.1) ∧ Ints lo hi w p.2 (casts y.2.2) from ⟨by rw [List.length_append, HI.out.1]; rfl, fun i p y hp hy => by
      by_cases e : i < vs.length
      · rw [List.getElem?_append_left e] at hp
        exact HI.out.2 i p y hp hy
      · have hi := (List.getElem?_eq_some_iff.1 hp).1
        rw [List.length_append, List.length_singleton] at hi
        have h1 := HI.out.1
        obtain rfl : i = k := by omega
        rw [List.getElem?_append_right (by omega), h1, Nat.sub_self] at hp
        simp only [List.getElem?_cons_zero, Option.some.injEq] at hp
        subst hp
        rw [HX.out] at hy
        cases hy
        exact HI34.out⟩)
    have H1 := Lib.hid (show vs.length = (L.take k).length by rw [HI.out.1, HTK.out])
    clear c1 i3 i4 hx htk hA8 hB8
    go_wp2_with fail
    go_region_law (refine step_append_run rfl _ _ _ rfl _ _ rfl rfl hrun ?_)
    all_goals
      go_wp2_with fail
      go_roundw
      case rel =>
        refine ⟨k + 1, vs ++ [(.slice A3 x.2.1.length k3, .slice A4 x.2.2.length k4)], by omega, by go_num, HNI, Lib.hid ?_, HB8⟩
        rw [HNX.out, ← outL_snoc H1.out]
        exact HA8.out
      case measure => simp [intOf]; omega
  · have hke : k = L.length := by omega
    have HFIN := Lib.hid (show LRead 0 wr.heap.size wr (.slice Aa k ca) L from by
      have h9 := HA.out.head
      have e : L.take k = L := by rw [hke, List.take_length]
      rw [e] at h9
      have h8 : wr.ownsRow w.heap.size 35 3 (.slice Aa k ca) L.length (lpCs vs L) := h9
      have hbr := HBr.out.size
      refine lread_row h8 (by rw [HI.out.1, hke]) (Nat.le_refl _) (by omega) fun i p x hp hx => ?_
      obtain ⟨h1, h2⟩ := HI.out.2 i p x hp hx
      have st : Still lo hi 0 wr.heap.size w wr := ⟨fun k _ hk => (HBr.out.mono hh).block k hk, Nat.zero_le _, Nat.le_trans hh hbr⟩
      exact ⟨Ints.move st h1, Ints.move st h2⟩)
    clear hke
    go_wp2_with fail
    go_ret
    exact ⟨_, rfl, HFIN.out, HBr.out⟩
end Go.Proofs.Ytiohngbmddfgfaa.Lp11
