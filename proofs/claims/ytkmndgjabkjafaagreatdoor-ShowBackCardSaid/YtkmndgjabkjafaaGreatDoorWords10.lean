/-
  Package show: the words of instructions, walked.
-/
import Derived.Test.YtkmndgjabkjafaaGreatDoorWords9
namespace Go.Proofs.YtkmndgjabkjafaaGreatDoor.Sh6
open Go.RowKit Api Syn WordM Mem Rd5

theorem ahead6 (op : Int) (w : World) : Calls Tryz.prog 169 #[i64 op] w fun e w' => e = .returned (i64 (aheadV op : Nat)) ∧ w = w' := by
  by_cases h : op = 26 ∨ op = 27
  · rcases h with rfl | rfl
    all_goals
      go_enter Tryz.func169, Tryz.ntmps169
      go_wp2
      go_ret
      exact ⟨rfl, rfl⟩
  · have e : aheadV op = 0 := by unfold aheadV; rw [if_neg h]
    rw [e]
    have h1 : (op == 26) = false := by simp; omega
    have h2 : (op == 27) = false := by simp; omega
    clear h e
    go_enter Tryz.func169, Tryz.ntmps169
    go_wp2
    go_ret
    exact ⟨rfl, rfl⟩
theorem ahead_to (op : Int) (k : Nat) (h : aheadV op = k) (w : World) : Calls Tryz.prog 169 #[i64 op] w fun e w' => e = .returned (i64 (k : Int)) ∧ w = w' := by rw [← h]; exact ahead6 op w
/-- a row's first things, and those behind them. -/
theorem args_take {lo hi : Nat} {w : World} {A : Option Addr} {n cap k : Nat} {l : List Arg} (h : Args lo hi w (.slice A n cap) l) (hk : k ≤ n) (_ : n ≤ cap) : Args lo hi w (.slice A k cap) (l.take k) := by
  obtain ⟨A', n', cap', b, off, e, hn, hm, ha, hc⟩ := h
  cases e
  exact ⟨A, k, cap, b, off, rfl, by rw [List.length_take]; omega, by omega, fun h0 => ha (by omega), fun i x hx => hc i x (by
    rw [List.getElem?_take] at hx
    split at hx
    · exact hx
    · cases hx)⟩
theorem args_drop {lo hi : Nat} {w : World} {b off n cap k c : Nat} {l : List Arg} (h : Args lo hi w (.slice (some ⟨b, off, none⟩) n cap) l) (hk : k ≤ n) (h0 : 0 < n) (hc2 : n - k ≤ c) : Args lo hi w (.slice (some ⟨b, off + k * 3, none⟩) (n - k) c) (l.drop k) := by
  obtain ⟨A', n', cap', b', off', e, hn, hm, ha, hc⟩ := h
  cases e
  obtain ⟨e, h1, h2⟩ := ha (by omega)
  simp only [Option.some.injEq, Addr.mk.injEq, and_true] at e
  obtain ⟨rfl, rfl⟩ := e
  refine ⟨_, n - k, c, b, off + k * 3, rfl, by rw [List.length_drop]; omega, by omega, fun _ => ⟨rfl, by omega, by omega⟩, fun i x hx => ?_⟩
  rw [List.getElem?_drop] at hx
  obtain ⟨cs, c1, c2, c3⟩ := hc (k + i) x hx
  refine ⟨cs, c1, fun j u hj => ?_, c3⟩
  rw [← c2 j u hj]
  congr 2
  rw [Nat.add_mul]
  omega
theorem args_end {lo hi : Nat} {w : World} {A A2 : Option Addr} {n cap : Nat} {l : List Arg} (h : Args lo hi w (.slice A n cap) l) (hc : cap - 1 = 0) (hk : 1 ≤ n) (hn : n ≤ cap) : Args lo hi w (.slice A2 (n - 1) 0) (l.drop 1) := by
  obtain ⟨A', n', cap', b', off', e, hn', hm, ha, hc'⟩ := h
  cases e
  have e1 : l.drop 1 = [] := List.drop_eq_nil_of_le (by omega)
  rw [e1]
  exact ⟨A2, n - 1, 0, 0, 0, rfl, by simp; omega, by omega, fun h0 => absurd h0 (by omega), fun i x hx => by simp at hx⟩
theorem row_eq {w : World} {b n m : Nat} {v : Value} {xs ys : List Value} (h : w.ownsRow b 9 1 v n xs) (hn : n = m) (hx : xs = ys) : w.ownsRow b 9 1 v m ys := by
  subst hn hx
  exact h
theorem keep_f {w w' : World} {base b n : Nat} {t : TypeId} {cs : List Value} {v : Value} {xs : List Value} (hO : Own w b t cs) (ht : t ≠ 9) (own : w.ownsRow base 9 1 v n xs) (hg : w.grownBy w' v.ownBlock) : Own w' b t cs := by
  refine (hg.block b hO.lt ?_).trans hO
  intro he
  rcases own.2 with ⟨rfl, _⟩ | ⟨g, cap, cur, rfl, hb, h2, _⟩
  · simp [Value.ownBlock] at he
  · simp only [Value.ownBlock, Option.some.injEq] at he
    subst he
    have h3 : some (Obj.cells cs.toArray t (0, 0)) = some (Obj.cells cur 9 (0, 0)) := hO.symm.trans h2
    simp only [Option.some.injEq, Obj.cells.injEq] at h3
    exact ht h3.2.1
/-- 'append(nil, x, ..)': the row is new, and the call's own. -/
theorem fresh_row {w1 q W : World} {base g c : Nat} (cs : List Value) (ws : List Wd) (hW : (w1.alloc (.cells (cs.toArray ++ Builtin.zeroCells #[.string ⟨#[]⟩] (c - ws.length)) 9)).drew = W) (hcs : cs = LinesM.strs ws) (h0 : 0 < ws.length) (hl : ws.length ≤ 100) (hb : base ≤ w1.heap.size) (hg : g = w1.heap.size) (hc : c = grownCap q ws.length 0 9) : W.ownsRow base 9 1 (.slice (some ⟨g, 0, none⟩) ws.length c) ws.length (LinesM.strs ws) := by
  subst hW hg hcs
  have h1 : ws.length ≤ c := by rw [hc]; exact grownCap_ge q _ 0 _
  have h2 : c ≤ maxLen := by rw [hc]; exact grownCap_le_maxLen q _ 0 _ (by unfold maxLen; omega)
  have e : (LinesM.strs ws).length = ws.length := by simp [LinesM.strs]
  refine ⟨by simp [e], .inr ⟨w1.heap.size, c, _, rfl, hb, heap_alloc_new w1 _, h1, h2, ?_, ?_⟩⟩
  · simp [Builtin.zeroCells, e]
    omega
  · simp [e]
/-- 'append(a, b...)', both rows the call's own, or nil: what else lies is as it was. -/
theorem wpList_rows {P : Program} {w : World} {ops : Array Oper} {rest : List Oper} {o : Oper} {a : Act} {Q : Exit → Act → World → Prop} (hgd : o.guard = none) (s x : Operand) (t : TypeId)
    (ho : o.op = .call { callee := .builtin .append, args := #[s, x], argTypes := #[t, t] })
    (base : Nat) (e : TypeId) (i : TypeInfo) (z : Value) (size bytes : Nat) (ht : P.underlying t = some (.slice e)) (hi : P.info? e = some i) (hz : i.zero = some z)
    (hsize : i.size = size) (hby : i.bytes = bytes) (hzs : z.cells.size = size) (hsz : 0 < size)
    (v : Value) (n : Nat) (xs : List Value) (hs : a.eval s = v) (hown : w.ownsRow base e size v n xs)
    (xv : Value) (m : Nat) (news : List Value) (hx : a.eval x = xv) (hxo : w.ownsRow base e size xv m news) (h1 : ∀ u ∈ news, u.oneCell' = true)
    (h63 : n + m ≤ maxLen) (hbytes : (n + m) * bytes ≤ 140737488355328) (hbase : base ≤ w.heap.size)
    (h : ∀ v' w', w'.ownsRow base e size v' (n + m) (xs ++ news) → w.grownBy w' v.ownBlock → wpList P ops Q rest (a.put o.dst v') w') :
    wpList P ops Q (o :: rest) a w := by
  rcases hxo.2 with ⟨hxn, hm⟩ | ⟨g, cap, cur, hxs, hbg, hg, hnc, hcm, hcs, htake⟩
  · subst hm
    have hn : news = [] := List.eq_nil_of_length_eq_zero (by simpa using hxo.1)
    subst hn
    refine wpList_append_own_none hgd s x t ho base e i size ht hi v n xs hs hown (by rw [hx, hxn]) ?_
    exact h v w (by simpa using hown) ⟨rfl, rfl, rfl, Nat.le_refl _, fun _ _ _ => rfl⟩
  · refine wpList_append_own (w := w) hgd s x t ho base e i z size bytes ht hi hz hsize hby hzs hsz v n xs hs hown ⟨g, 0, none⟩ m cap news (by rw [hx, hxs]) hxo.1 (hxo.cells (g := g) (by rw [hxs]; rfl)) h1 h63 hbytes hbase ?_
    intro v' w' h2 h3 _
    exact h v' w' h2 h3
set_option maxRecDepth 100000 in
set_option maxHeartbeats 16000000 in
theorem instrWords_0dy (lo hi : Nat) (w : World) (op : Int) (nm : Wd) (sd z : ByteArray) (l : List Arg) (A B2 B3 : Option Addr) (n cap k2 c2 k3 c3 : Nat) (l0 km : Int) (hx : Args lo hi w (.slice A n cap) l) (hn : n = l.length) (hh : hi ≤ w.heap.size) (hcap : n ≤ cap) (hI : ∀ a ∈ l, argI a) (hl : n ≤ 1048576) (hL : LaidS w) (hfo : formV op = (⟨z.data.toList, true, true, l0, km⟩, true)) (ha : aheadV op = 0) (hk : 0 ≤ n) (e0 : sd.toList.isEmpty = false) :
    Calls Tryz.prog 146 #[.agg #[i64 op, .string sd, str nm, .slice A n cap, .slice B2 k2 c2, .slice B3 k3 c3]] w (WordsP w ([sd.data.toList, kEq] ++ (z.data.toList :: ((l.take 0).map putA ++ ([nm] ++ (l.drop 0).map putA))))) := by
  obtain ⟨i0, hi0, hz0, hz1, hz2⟩ := info_parts s_info
  have Hi := Lib.hid hi0
  have Hz0 := Lib.hid hz0
  have Hz1 := Lib.hid hz1
  have Hz2 := Lib.hid hz2
  have QA := Lib.hid (ahead_to op 0 ha)
  have QO := Lib.hid fun w => of_as op z _ _ l0 km true hfo w
  have HL := Lib.hid hL
  have HX := Lib.hid hx
  have HI := Lib.hid hI
  have HN := Lib.hid hn
  have QP1 := Lib.hid fun (w' : World) (hb : Below w.heap.size w w') => puts_any lo hi w' _ (l.take 0) (Args.move (Still.of_below (hb.mono hh)) (args_take hx hk hcap)) (Nat.le_trans hh hb.size) (fun a ha => hI a (List.mem_of_mem_take ha)) (by rw [List.length_take]; omega)
  have QP2 := Lib.hid fun (w' : World) (hb : Below w.heap.size w w') => puts_any lo hi w' _ l (Args.move (Still.of_below (hb.mono hh)) hx) (Nat.le_trans hh hb.size) (fun a ha => hI a ha) (by omega)
  have HM1 : Hid (((l.take 0).map putA).length ≤ 1048576) := Lib.hid (by rw [List.length_map, List.length_take]; omega)
  have HM2 : Hid ((l.map putA).length ≤ 1048576) := Lib.hid (by rw [List.length_map]; omega)
  clear hi0 hz0 hz1 hz2 hfo hL hx hI hn ha
  have HB0 := Lib.hid ((Below.refl w.heap.size w).alloc (Nat.le_refl _) (.cells #[i64 op, .string sd, str nm, .slice A n cap, .slice B2 k2 c2, .slice B3 k3 c3] 52))
  obtain ⟨W1, hW1⟩ : ∃ W1, w.alloc (.cells #[i64 op, .string sd, str nm, .slice A n cap, .slice B2 k2 c2, .slice B3 k3 c3] 52) = W1 := ⟨_, rfl⟩
  have hz1 : W1.heap.size = w.heap.size + 1 := by rw [← hW1]; simp
  have HZ1 := Lib.hid hz1
  have HW1 := Lib.hid hW1
  have HO1 : Hid (Own W1 w.heap.size 52 [i64 op, .string sd, str nm, .slice A n cap, .slice B2 k2 c2, .slice B3 k3 c3]) := Lib.hid (by rw [← hW1]; exact Own.made w 52 [i64 op, .string sd, str nm, .slice A n cap, .slice B2 k2 c2, .slice B3 k3 c3])
  have HB01 : Hid (Below w.heap.size w W1) := Lib.hid (by rw [← hW1]; exact HB0.out)
  clear hz1 hW1
  go_enter Tryz.func146, Tryz.ntmps146
  have HLT := Lib.hid (made_row (base := w.heap.size + 1) (g := w.heap.size + 1) (w := w.alloc (.cells #[i64 op, .string sd, str nm, .slice A n cap, .slice B2 k2 c2, .slice B3 k3 c3] 52)) [.string sd, .string ⟨#[61]⟩] [sd.data.toList, kEq] rfl (by simp) (by simp) (by simp [LinesM.strs, kEq]) (by simp))
  have HB2 : Hid (Below (w.heap.size + 1) W1 ((w.alloc (.cells #[i64 op, .string sd, str nm, .slice A n cap, .slice B2 k2 c2, .slice B3 k3 c3] 52)).alloc (.cells #[.string sd, .string ⟨#[61]⟩] 9))) := Lib.hid (by rw [HW1.out]; exact (Below.refl _ _).alloc (by rw [HZ1.out]; omega) _)
  go_wp2_with fail
  obtain ⟨v3, hv3, HO3⟩ : ∃ v3, Value.slice (some ⟨w.heap.size + 1 + 1, 0, none⟩) 2 ((Question.appendCap 2 0 9).cut (w.tape w.drawn (Question.appendCap 2 0 9))) = v3 ∧ Hid (World.ownsRow ((((w.alloc (.cells #[i64 op, .string sd, str nm, .slice A n cap, .slice B2 k2 c2, .slice B3 k3 c3] 52)).alloc (.cells #[.string sd, .string ⟨#[61]⟩] 9)).alloc (.cells (#[.string sd, .string ⟨#[61]⟩] ++ Builtin.zeroCells #[.string ⟨#[]⟩] ((Question.appendCap 2 0 9).cut (w.tape w.drawn (Question.appendCap 2 0 9)) - 2)) 9)).drew) (w.heap.size + 1) 9 1 v3 2 (LinesM.strs [sd.data.toList, kEq])) := ⟨_, rfl, Lib.hid (fresh_row (q := w) (base := w.heap.size + 1) (g := w.heap.size + 1 + 1) (w1 := ((w.alloc (.cells #[i64 op, .string sd, str nm, .slice A n cap, .slice B2 k2 c2, .slice B3 k3 c3] 52)).alloc (.cells #[.string sd, .string ⟨#[61]⟩] 9))) [.string sd, .string ⟨#[61]⟩] [sd.data.toList, kEq] rfl (by simp [LinesM.strs, kEq]) (by simp) (by simp) (by simp) (by simp) rfl)⟩
  have HB3 := Lib.hid ((HB2.out.alloc (by simp) (.cells (#[.string sd, .string ⟨#[61]⟩] ++ Builtin.zeroCells #[.string ⟨#[]⟩] (grownCap w 2 0 9 - 2)) 9)).drew)
  refine (QO.out _ ((HL.out.below HB01.out (Nat.le_refl _)).below HB3.out (by rw [HZ1.out]; omega))).mono ?_; rintro e w5 ⟨rfl, hb5⟩
  rw [hv3]
  clear hv3
  have HO5 := Lib.hid (World.ownsRow.alloc (LinesM.own_below HO3.out hb5) (.cells #[.string z, .bool true, .bool true, .int .i64 l0, .int .i64 km] 216))
  have HB5 := Lib.hid (HB3.out.trans (hb5.mono (by simp)))
  have hs5 : w.heap.size + 1 ≤ w5.heap.size := by have := hb5.size; simp at this; omega
  have HB6 := Lib.hid (HB5.out.alloc hs5 (.cells #[.string z, .bool true, .bool true, .int .i64 l0, .int .i64 km] 216))
  have HOF := Lib.hid (Own.made w5 216 [.string z, .bool true, .bool true, .int .i64 l0, .int .i64 km])
  have HS5 : Hid (w.heap.size < w5.heap.size) := Lib.hid (by omega)
  clear hb5
  go_wp2_with (first | ((with_reducible refine (QA.out _).mono ?_); rintro e w0 ⟨rfl, rfl⟩) | (at_builtin; refine LinesM.wpList_push_at rfl _ _ 43 rfl (w.heap.size + 1) 9 i0 (.string ⟨#[]⟩) 1 16 Tryz.underlying43 Hi.out Hz0.out Hz1.out Hz2.out rfl (by decide) _ _ _ rfl HO5.out [.string z] (w5.heap.size + 1) (by simp) rfl rfl (by simp [Value.oneCell']) (by have h1 := HM1.out; have h2 := HM2.out; unfold maxLen; omega) (by have h1 := HM1.out; have h2 := HM2.out; omega) (Nat.le_trans (Nat.le_of_eq HZ1.out.symm) HB6.out.size) ?_; intro v7 w7 hown hgn; have HGw7 := Lib.hid hgn; have HO7 := Lib.hid hown; have HB7 := Lib.hid (LinesM.below_grown HB6.out HO5.out hgn (Nat.le_trans (Nat.le_of_eq HZ1.out.symm) HB6.out.size) (Nat.le_refl _)); clear hown hgn; have HOF7 := Lib.hid (keep_f HOF.out (by decide) HO5.out HGw7.out); have g0 := own_hold6 HO1.out HB7.out (Nat.lt_succ_self _) 0 rfl; have g1 := own_hold6 HO1.out HB7.out (Nat.lt_succ_self _) 1 rfl; have g2 := own_hold6 HO1.out HB7.out (Nat.lt_succ_self _) 2 rfl; have g3 := own_hold6 HO1.out HB7.out (Nat.lt_succ_self _) 3 rfl; have g4 := own_hold6 HO1.out HB7.out (Nat.lt_succ_self _) 4 rfl; have g5 := own_hold6 HO1.out HB7.out (Nat.lt_succ_self _) 5 rfl) | ((with_reducible refine (QP1.out _ (HB01.out.trans (HB7.out.mono (Nat.le_succ _)))).mono ?_); rintro e w8 ⟨v8, rfl, ho, hb⟩; have HP8 := Lib.hid (LinesM.own_lower ho (Nat.le_trans (Nat.le_of_eq HZ1.out.symm) HB7.out.size)); have HO8 := Lib.hid (LinesM.own_below HO7.out hb); have HB8 := Lib.hid (HB7.out.trans (hb.mono (Nat.le_trans (Nat.le_of_eq HZ1.out.symm) HB7.out.size))); have HOF8 := Lib.hid (HOF7.out.below hb HOF7.out.lt); clear ho hb) | (at_builtin; refine wpList_rows rfl _ _ 43 rfl (w.heap.size + 1) 9 i0 (.string ⟨#[]⟩) 1 16 Tryz.underlying43 Hi.out Hz0.out Hz1.out Hz2.out rfl (by decide) _ _ _ rfl HO8.out _ _ _ rfl HP8.out (ones_strs _) (by have h1 := HM1.out; have h2 := HM2.out; unfold maxLen; omega) (by have h1 := HM1.out; have h2 := HM2.out; omega) (Nat.le_trans (Nat.le_of_eq HZ1.out.symm) HB8.out.size) ?_; intro v9 w9 hown hgn; have HGw9 := Lib.hid hgn; have HO9 := Lib.hid hown; have HB9 := Lib.hid (LinesM.below_grown HB8.out HO8.out hgn (Nat.le_trans (Nat.le_of_eq HZ1.out.symm) HB8.out.size) (Nat.le_refl _)); clear hown hgn; have HOF9 := keep_f HOF8.out (by decide) HO8.out HGw9.out; have p2 := HOF9.cell 2; simp only [List.getElem?_cons_succ, List.getElem?_cons_zero] at p2; clear HOF9; clear g0 g1 g2 g3 g4 g5; have g0 := own_hold6 HO1.out HB9.out (Nat.lt_succ_self _) 0 rfl; have g1 := own_hold6 HO1.out HB9.out (Nat.lt_succ_self _) 1 rfl; have g2 := own_hold6 HO1.out HB9.out (Nat.lt_succ_self _) 2 rfl; have g3 := own_hold6 HO1.out HB9.out (Nat.lt_succ_self _) 3 rfl; have g4 := own_hold6 HO1.out HB9.out (Nat.lt_succ_self _) 4 rfl; have g5 := own_hold6 HO1.out HB9.out (Nat.lt_succ_self _) 5 rfl) | (at_builtin; refine LinesM.wpList_push_at rfl _ _ 43 rfl (w.heap.size + 1) 9 i0 (.string ⟨#[]⟩) 1 16 Tryz.underlying43 Hi.out Hz0.out Hz1.out Hz2.out rfl (by decide) _ _ _ rfl HO9.out [str nm] (w9.heap.size) (by simp) rfl rfl (by simp [Value.oneCell']) (by have h1 := HM1.out; have h2 := HM2.out; unfold maxLen; omega) (by have h1 := HM1.out; have h2 := HM2.out; omega) (Nat.le_trans (Nat.le_of_eq HZ1.out.symm) HB9.out.size) ?_; intro v11 w11 hown hgn; have HGw11 := Lib.hid hgn; have HO11 := Lib.hid hown; have HB11 := Lib.hid (LinesM.below_grown HB9.out HO9.out hgn (Nat.le_trans (Nat.le_of_eq HZ1.out.symm) HB9.out.size) (Nat.le_refl _)); clear hown hgn; clear p2 g0 g1 g2 g3 g4 g5; have g0 := own_hold6 HO1.out HB11.out (Nat.lt_succ_self _) 0 rfl; have g1 := own_hold6 HO1.out HB11.out (Nat.lt_succ_self _) 1 rfl; have g2 := own_hold6 HO1.out HB11.out (Nat.lt_succ_self _) 2 rfl; have g3 := own_hold6 HO1.out HB11.out (Nat.lt_succ_self _) 3 rfl; have g4 := own_hold6 HO1.out HB11.out (Nat.lt_succ_self _) 4 rfl; have g5 := own_hold6 HO1.out HB11.out (Nat.lt_succ_self _) 5 rfl) | ((with_reducible refine (QP2.out _ (HB01.out.trans (HB11.out.mono (Nat.le_succ _)))).mono ?_); rintro e w12 ⟨v12, rfl, ho, hb⟩; have HP12 := Lib.hid (LinesM.own_lower ho (Nat.le_trans (Nat.le_of_eq HZ1.out.symm) HB11.out.size)); have HO12 := Lib.hid (LinesM.own_below HO11.out hb); have HB12 := Lib.hid (HB11.out.trans (hb.mono (Nat.le_trans (Nat.le_of_eq HZ1.out.symm) HB11.out.size))); clear ho hb) | (at_builtin; refine wpList_rows rfl _ _ 43 rfl (w.heap.size + 1) 9 i0 (.string ⟨#[]⟩) 1 16 Tryz.underlying43 Hi.out Hz0.out Hz1.out Hz2.out rfl (by decide) _ _ _ rfl HO12.out _ _ _ rfl HP12.out (ones_strs _) (by have h1 := HM1.out; have h2 := HM2.out; unfold maxLen; omega) (by have h1 := HM1.out; have h2 := HM2.out; omega) (Nat.le_trans (Nat.le_of_eq HZ1.out.symm) HB12.out.size) ?_; intro v13 w13 hown hgn; have HGw13 := Lib.hid hgn; have HO13 := Lib.hid hown; have HB13 := Lib.hid (LinesM.below_grown HB12.out HO12.out hgn (Nat.le_trans (Nat.le_of_eq HZ1.out.symm) HB12.out.size) (Nat.le_refl _)); clear hown hgn))
  all_goals
    go_ret
    refine ⟨_, rfl, row_eq (LinesM.own_lower HO13.out (Nat.le_succ w.heap.size)) (by simp <;> omega) (by simp [LinesM.strs]), HB01.out.trans (HB13.out.mono (Nat.le_succ _))⟩
set_option maxRecDepth 100000 in
set_option maxHeartbeats 16000000 in
theorem instrWords_0do (lo hi : Nat) (w : World) (op : Int) (nm : Wd) (sd z : ByteArray) (l : List Arg) (A B2 B3 : Option Addr) (n cap k2 c2 k3 c3 : Nat) (l0 km : Int) (hx : Args lo hi w (.slice A n cap) l) (hn : n = l.length) (hh : hi ≤ w.heap.size) (hcap : n ≤ cap) (hI : ∀ a ∈ l, argI a) (hl : n ≤ 1048576) (hL : LaidS w) (hfo : formV op = (⟨z.data.toList, true, false, l0, km⟩, true)) (ha : aheadV op = 0) (hk : 0 ≤ n) (e0 : sd.toList.isEmpty = false) :
    Calls Tryz.prog 146 #[.agg #[i64 op, .string sd, str nm, .slice A n cap, .slice B2 k2 c2, .slice B3 k3 c3]] w (WordsP w ([sd.data.toList, kEq] ++ (z.data.toList :: ((l.take 0).map putA ++ ([] ++ (l.drop 0).map putA))))) := by
  obtain ⟨i0, hi0, hz0, hz1, hz2⟩ := info_parts s_info
  have Hi := Lib.hid hi0
  have Hz0 := Lib.hid hz0
  have Hz1 := Lib.hid hz1
  have Hz2 := Lib.hid hz2
  have QA := Lib.hid (ahead_to op 0 ha)
  have QO := Lib.hid fun w => of_as op z _ _ l0 km true hfo w
  have HL := Lib.hid hL
  have HX := Lib.hid hx
  have HI := Lib.hid hI
  have HN := Lib.hid hn
  have QP1 := Lib.hid fun (w' : World) (hb : Below w.heap.size w w') => puts_any lo hi w' _ (l.take 0) (Args.move (Still.of_below (hb.mono hh)) (args_take hx hk hcap)) (Nat.le_trans hh hb.size) (fun a ha => hI a (List.mem_of_mem_take ha)) (by rw [List.length_take]; omega)
  have QP2 := Lib.hid fun (w' : World) (hb : Below w.heap.size w w') => puts_any lo hi w' _ l (Args.move (Still.of_below (hb.mono hh)) hx) (Nat.le_trans hh hb.size) (fun a ha => hI a ha) (by omega)
  have HM1 : Hid (((l.take 0).map putA).length ≤ 1048576) := Lib.hid (by rw [List.length_map, List.length_take]; omega)
  have HM2 : Hid ((l.map putA).length ≤ 1048576) := Lib.hid (by rw [List.length_map]; omega)
  clear hi0 hz0 hz1 hz2 hfo hL hx hI hn ha
  have HB0 := Lib.hid ((Below.refl w.heap.size w).alloc (Nat.le_refl _) (.cells #[i64 op, .string sd, str nm, .slice A n cap, .slice B2 k2 c2, .slice B3 k3 c3] 52))
  obtain ⟨W1, hW1⟩ : ∃ W1, w.alloc (.cells #[i64 op, .string sd, str nm, .slice A n cap, .slice B2 k2 c2, .slice B3 k3 c3] 52) = W1 := ⟨_, rfl⟩
  have hz1 : W1.heap.size = w.heap.size + 1 := by rw [← hW1]; simp
  have HZ1 := Lib.hid hz1
  have HW1 := Lib.hid hW1
  have HO1 : Hid (Own W1 w.heap.size 52 [i64 op, .string sd, str nm, .slice A n cap, .slice B2 k2 c2, .slice B3 k3 c3]) := Lib.hid (by rw [← hW1]; exact Own.made w 52 [i64 op, .string sd, str nm, .slice A n cap, .slice B2 k2 c2, .slice B3 k3 c3])
  have HB01 : Hid (Below w.heap.size w W1) := Lib.hid (by rw [← hW1]; exact HB0.out)
  clear hz1 hW1
  go_enter Tryz.func146, Tryz.ntmps146
  have HLT := Lib.hid (made_row (base := w.heap.size + 1) (g := w.heap.size + 1) (w := w.alloc (.cells #[i64 op, .string sd, str nm, .slice A n cap, .slice B2 k2 c2, .slice B3 k3 c3] 52)) [.string sd, .string ⟨#[61]⟩] [sd.data.toList, kEq] rfl (by simp) (by simp) (by simp [LinesM.strs, kEq]) (by simp))
  have HB2 : Hid (Below (w.heap.size + 1) W1 ((w.alloc (.cells #[i64 op, .string sd, str nm, .slice A n cap, .slice B2 k2 c2, .slice B3 k3 c3] 52)).alloc (.cells #[.string sd, .string ⟨#[61]⟩] 9))) := Lib.hid (by rw [HW1.out]; exact (Below.refl _ _).alloc (by rw [HZ1.out]; omega) _)
  go_wp2_with fail
  obtain ⟨v3, hv3, HO3⟩ : ∃ v3, Value.slice (some ⟨w.heap.size + 1 + 1, 0, none⟩) 2 ((Question.appendCap 2 0 9).cut (w.tape w.drawn (Question.appendCap 2 0 9))) = v3 ∧ Hid (World.ownsRow ((((w.alloc (.cells #[i64 op, .string sd, str nm, .slice A n cap, .slice B2 k2 c2, .slice B3 k3 c3] 52)).alloc (.cells #[.string sd, .string ⟨#[61]⟩] 9)).alloc (.cells (#[.string sd, .string ⟨#[61]⟩] ++ Builtin.zeroCells #[.string ⟨#[]⟩] ((Question.appendCap 2 0 9).cut (w.tape w.drawn (Question.appendCap 2 0 9)) - 2)) 9)).drew) (w.heap.size + 1) 9 1 v3 2 (LinesM.strs [sd.data.toList, kEq])) := ⟨_, rfl, Lib.hid (fresh_row (q := w) (base := w.heap.size + 1) (g := w.heap.size + 1 + 1) (w1 := ((w.alloc (.cells #[i64 op, .string sd, str nm, .slice A n cap, .slice B2 k2 c2, .slice B3 k3 c3] 52)).alloc (.cells #[.string sd, .string ⟨#[61]⟩] 9))) [.string sd, .string ⟨#[61]⟩] [sd.data.toList, kEq] rfl (by simp [LinesM.strs, kEq]) (by simp) (by simp) (by simp) (by simp) rfl)⟩
  have HB3 := Lib.hid ((HB2.out.alloc (by simp) (.cells (#[.string sd, .string ⟨#[61]⟩] ++ Builtin.zeroCells #[.string ⟨#[]⟩] (grownCap w 2 0 9 - 2)) 9)).drew)
  refine (QO.out _ ((HL.out.below HB01.out (Nat.le_refl _)).below HB3.out (by rw [HZ1.out]; omega))).mono ?_; rintro e w5 ⟨rfl, hb5⟩
  rw [hv3]
  clear hv3
  have HO5 := Lib.hid (World.ownsRow.alloc (LinesM.own_below HO3.out hb5) (.cells #[.string z, .bool true, .bool false, .int .i64 l0, .int .i64 km] 216))
  have HB5 := Lib.hid (HB3.out.trans (hb5.mono (by simp)))
  have hs5 : w.heap.size + 1 ≤ w5.heap.size := by have := hb5.size; simp at this; omega
  have HB6 := Lib.hid (HB5.out.alloc hs5 (.cells #[.string z, .bool true, .bool false, .int .i64 l0, .int .i64 km] 216))
  have HOF := Lib.hid (Own.made w5 216 [.string z, .bool true, .bool false, .int .i64 l0, .int .i64 km])
  have HS5 : Hid (w.heap.size < w5.heap.size) := Lib.hid (by omega)
  clear hb5
  go_wp2_with (first | ((with_reducible refine (QA.out _).mono ?_); rintro e w0 ⟨rfl, rfl⟩) | (at_builtin; refine LinesM.wpList_push_at rfl _ _ 43 rfl (w.heap.size + 1) 9 i0 (.string ⟨#[]⟩) 1 16 Tryz.underlying43 Hi.out Hz0.out Hz1.out Hz2.out rfl (by decide) _ _ _ rfl HO5.out [.string z] (w5.heap.size + 1) (by simp) rfl rfl (by simp [Value.oneCell']) (by have h1 := HM1.out; have h2 := HM2.out; unfold maxLen; omega) (by have h1 := HM1.out; have h2 := HM2.out; omega) (Nat.le_trans (Nat.le_of_eq HZ1.out.symm) HB6.out.size) ?_; intro v7 w7 hown hgn; have HGw7 := Lib.hid hgn; have HO7 := Lib.hid hown; have HB7 := Lib.hid (LinesM.below_grown HB6.out HO5.out hgn (Nat.le_trans (Nat.le_of_eq HZ1.out.symm) HB6.out.size) (Nat.le_refl _)); clear hown hgn; have HOF7 := Lib.hid (keep_f HOF.out (by decide) HO5.out HGw7.out); have g0 := own_hold6 HO1.out HB7.out (Nat.lt_succ_self _) 0 rfl; have g1 := own_hold6 HO1.out HB7.out (Nat.lt_succ_self _) 1 rfl; have g2 := own_hold6 HO1.out HB7.out (Nat.lt_succ_self _) 2 rfl; have g3 := own_hold6 HO1.out HB7.out (Nat.lt_succ_self _) 3 rfl; have g4 := own_hold6 HO1.out HB7.out (Nat.lt_succ_self _) 4 rfl; have g5 := own_hold6 HO1.out HB7.out (Nat.lt_succ_self _) 5 rfl) | ((with_reducible refine (QP1.out _ (HB01.out.trans (HB7.out.mono (Nat.le_succ _)))).mono ?_); rintro e w8 ⟨v8, rfl, ho, hb⟩; have HP8 := Lib.hid (LinesM.own_lower ho (Nat.le_trans (Nat.le_of_eq HZ1.out.symm) HB7.out.size)); have HO8 := Lib.hid (LinesM.own_below HO7.out hb); have HB8 := Lib.hid (HB7.out.trans (hb.mono (Nat.le_trans (Nat.le_of_eq HZ1.out.symm) HB7.out.size))); have HOF8 := Lib.hid (HOF7.out.below hb HOF7.out.lt); clear ho hb) | (at_builtin; refine wpList_rows rfl _ _ 43 rfl (w.heap.size + 1) 9 i0 (.string ⟨#[]⟩) 1 16 Tryz.underlying43 Hi.out Hz0.out Hz1.out Hz2.out rfl (by decide) _ _ _ rfl HO8.out _ _ _ rfl HP8.out (ones_strs _) (by have h1 := HM1.out; have h2 := HM2.out; unfold maxLen; omega) (by have h1 := HM1.out; have h2 := HM2.out; omega) (Nat.le_trans (Nat.le_of_eq HZ1.out.symm) HB8.out.size) ?_; intro v9 w9 hown hgn; have HGw9 := Lib.hid hgn; have HO9 := Lib.hid hown; have HB9 := Lib.hid (LinesM.below_grown HB8.out HO8.out hgn (Nat.le_trans (Nat.le_of_eq HZ1.out.symm) HB8.out.size) (Nat.le_refl _)); clear hown hgn; have HOF9 := keep_f HOF8.out (by decide) HO8.out HGw9.out; have p2 := HOF9.cell 2; simp only [List.getElem?_cons_succ, List.getElem?_cons_zero] at p2; clear HOF9; clear g0 g1 g2 g3 g4 g5; have g0 := own_hold6 HO1.out HB9.out (Nat.lt_succ_self _) 0 rfl; have g1 := own_hold6 HO1.out HB9.out (Nat.lt_succ_self _) 1 rfl; have g2 := own_hold6 HO1.out HB9.out (Nat.lt_succ_self _) 2 rfl; have g3 := own_hold6 HO1.out HB9.out (Nat.lt_succ_self _) 3 rfl; have g4 := own_hold6 HO1.out HB9.out (Nat.lt_succ_self _) 4 rfl; have g5 := own_hold6 HO1.out HB9.out (Nat.lt_succ_self _) 5 rfl) | ((with_reducible refine (QP2.out _ (HB01.out.trans (HB9.out.mono (Nat.le_succ _)))).mono ?_); rintro e w12 ⟨v12, rfl, ho, hb⟩; have HP12 := Lib.hid (LinesM.own_lower ho (Nat.le_trans (Nat.le_of_eq HZ1.out.symm) HB9.out.size)); have HO12 := Lib.hid (LinesM.own_below HO9.out hb); have HB12 := Lib.hid (HB9.out.trans (hb.mono (Nat.le_trans (Nat.le_of_eq HZ1.out.symm) HB9.out.size))); clear ho hb) | (at_builtin; refine wpList_rows rfl _ _ 43 rfl (w.heap.size + 1) 9 i0 (.string ⟨#[]⟩) 1 16 Tryz.underlying43 Hi.out Hz0.out Hz1.out Hz2.out rfl (by decide) _ _ _ rfl HO12.out _ _ _ rfl HP12.out (ones_strs _) (by have h1 := HM1.out; have h2 := HM2.out; unfold maxLen; omega) (by have h1 := HM1.out; have h2 := HM2.out; omega) (Nat.le_trans (Nat.le_of_eq HZ1.out.symm) HB12.out.size) ?_; intro v13 w13 hown hgn; have HGw13 := Lib.hid hgn; have HO13 := Lib.hid hown; have HB13 := Lib.hid (LinesM.below_grown HB12.out HO12.out hgn (Nat.le_trans (Nat.le_of_eq HZ1.out.symm) HB12.out.size) (Nat.le_refl _)); clear hown hgn))
  all_goals
    go_ret
    refine ⟨_, rfl, row_eq (LinesM.own_lower HO13.out (Nat.le_succ w.heap.size)) (by simp <;> omega) (by simp [LinesM.strs]), HB01.out.trans (HB13.out.mono (Nat.le_succ _))⟩
set_option maxRecDepth 100000 in
set_option maxHeartbeats 16000000 in
theorem instrWords_0ny (lo hi : Nat) (w : World) (op : Int) (nm : Wd) (sd z : ByteArray) (l : List Arg) (A B2 B3 : Option Addr) (n cap k2 c2 k3 c3 : Nat) (l0 km : Int) (hx : Args lo hi w (.slice A n cap) l) (hn : n = l.length) (hh : hi ≤ w.heap.size) (hcap : n ≤ cap) (hI : ∀ a ∈ l, argI a) (hl : n ≤ 1048576) (hL : LaidS w) (hfo : formV op = (⟨z.data.toList, false, true, l0, km⟩, true)) (ha : aheadV op = 0) (hk : 0 ≤ n) (e0 : sd.toList.isEmpty = true) :
    Calls Tryz.prog 146 #[.agg #[i64 op, .string sd, str nm, .slice A n cap, .slice B2 k2 c2, .slice B3 k3 c3]] w (WordsP w ((z.data.toList :: ((l.take 0).map putA ++ ([nm] ++ (l.drop 0).map putA))))) := by
  obtain ⟨i0, hi0, hz0, hz1, hz2⟩ := info_parts s_info
  have Hi := Lib.hid hi0
  have Hz0 := Lib.hid hz0
  have Hz1 := Lib.hid hz1
  have Hz2 := Lib.hid hz2
  have QA := Lib.hid (ahead_to op 0 ha)
  have QO := Lib.hid fun w => of_as op z _ _ l0 km true hfo w
  have HL := Lib.hid hL
  have HX := Lib.hid hx
  have HI := Lib.hid hI
  have HN := Lib.hid hn
  have QP1 := Lib.hid fun (w' : World) (hb : Below w.heap.size w w') => puts_any lo hi w' _ (l.take 0) (Args.move (Still.of_below (hb.mono hh)) (args_take hx hk hcap)) (Nat.le_trans hh hb.size) (fun a ha => hI a (List.mem_of_mem_take ha)) (by rw [List.length_take]; omega)
  have QP2 := Lib.hid fun (w' : World) (hb : Below w.heap.size w w') => puts_any lo hi w' _ l (Args.move (Still.of_below (hb.mono hh)) hx) (Nat.le_trans hh hb.size) (fun a ha => hI a ha) (by omega)
  have HM1 : Hid (((l.take 0).map putA).length ≤ 1048576) := Lib.hid (by rw [List.length_map, List.length_take]; omega)
  have HM2 : Hid ((l.map putA).length ≤ 1048576) := Lib.hid (by rw [List.length_map]; omega)
  clear hi0 hz0 hz1 hz2 hfo hL hx hI hn ha
  have HB0 := Lib.hid ((Below.refl w.heap.size w).alloc (Nat.le_refl _) (.cells #[i64 op, .string sd, str nm, .slice A n cap, .slice B2 k2 c2, .slice B3 k3 c3] 52))
  obtain ⟨W1, hW1⟩ : ∃ W1, w.alloc (.cells #[i64 op, .string sd, str nm, .slice A n cap, .slice B2 k2 c2, .slice B3 k3 c3] 52) = W1 := ⟨_, rfl⟩
  have hz1 : W1.heap.size = w.heap.size + 1 := by rw [← hW1]; simp
  have HZ1 := Lib.hid hz1
  have HW1 := Lib.hid hW1
  have HO1 : Hid (Own W1 w.heap.size 52 [i64 op, .string sd, str nm, .slice A n cap, .slice B2 k2 c2, .slice B3 k3 c3]) := Lib.hid (by rw [← hW1]; exact Own.made w 52 [i64 op, .string sd, str nm, .slice A n cap, .slice B2 k2 c2, .slice B3 k3 c3])
  have HB01 : Hid (Below w.heap.size w W1) := Lib.hid (by rw [← hW1]; exact HB0.out)
  clear hz1 hW1
  go_enter Tryz.func146, Tryz.ntmps146
  go_wp2_with fail
  rw [HW1.out]
  refine (QO.out _ (HL.out.below HB01.out (Nat.le_refl _))).mono ?_; rintro e w5 ⟨rfl, hb5⟩
  obtain ⟨v3, hv3, HO5⟩ : ∃ v3, Value.slice none 0 0 = v3 ∧ Hid (World.ownsRow (w5.alloc (.cells #[.string z, .bool false, .bool true, .int .i64 l0, .int .i64 km] 216)) (w.heap.size + 1) 9 1 v3 0 []) := ⟨_, rfl, Lib.hid (World.ownsRow_nil _ _ _ _)⟩
  rw [hv3]
  clear hv3
  have HB5 : Hid (Below (w.heap.size + 1) W1 w5) := Lib.hid (hb5.mono (by rw [HZ1.out]; omega))
  have hs5 : w.heap.size + 1 ≤ w5.heap.size := by have := hb5.size; rw [HZ1.out] at this; omega
  have HB6 := Lib.hid (HB5.out.alloc hs5 (.cells #[.string z, .bool false, .bool true, .int .i64 l0, .int .i64 km] 216))
  have HOF := Lib.hid (Own.made w5 216 [.string z, .bool false, .bool true, .int .i64 l0, .int .i64 km])
  have HS5 : Hid (w.heap.size < w5.heap.size) := Lib.hid (by omega)
  clear hb5
  go_wp2_with (first | ((with_reducible refine (QA.out _).mono ?_); rintro e w0 ⟨rfl, rfl⟩) | (at_builtin; refine LinesM.wpList_push_at rfl _ _ 43 rfl (w.heap.size + 1) 9 i0 (.string ⟨#[]⟩) 1 16 Tryz.underlying43 Hi.out Hz0.out Hz1.out Hz2.out rfl (by decide) _ _ _ rfl HO5.out [.string z] (w5.heap.size + 1) (by simp) rfl rfl (by simp [Value.oneCell']) (by have h1 := HM1.out; have h2 := HM2.out; unfold maxLen; omega) (by have h1 := HM1.out; have h2 := HM2.out; omega) (Nat.le_trans (Nat.le_of_eq HZ1.out.symm) HB6.out.size) ?_; intro v7 w7 hown hgn; have HGw7 := Lib.hid hgn; have HO7 := Lib.hid hown; have HB7 := Lib.hid (LinesM.below_grown HB6.out HO5.out hgn (Nat.le_trans (Nat.le_of_eq HZ1.out.symm) HB6.out.size) (Nat.le_refl _)); clear hown hgn; have HOF7 := Lib.hid (keep_f HOF.out (by decide) HO5.out HGw7.out); have g0 := own_hold6 HO1.out HB7.out (Nat.lt_succ_self _) 0 rfl; have g1 := own_hold6 HO1.out HB7.out (Nat.lt_succ_self _) 1 rfl; have g2 := own_hold6 HO1.out HB7.out (Nat.lt_succ_self _) 2 rfl; have g3 := own_hold6 HO1.out HB7.out (Nat.lt_succ_self _) 3 rfl; have g4 := own_hold6 HO1.out HB7.out (Nat.lt_succ_self _) 4 rfl; have g5 := own_hold6 HO1.out HB7.out (Nat.lt_succ_self _) 5 rfl) | ((with_reducible refine (QP1.out _ (HB01.out.trans (HB7.out.mono (Nat.le_succ _)))).mono ?_); rintro e w8 ⟨v8, rfl, ho, hb⟩; have HP8 := Lib.hid (LinesM.own_lower ho (Nat.le_trans (Nat.le_of_eq HZ1.out.symm) HB7.out.size)); have HO8 := Lib.hid (LinesM.own_below HO7.out hb); have HB8 := Lib.hid (HB7.out.trans (hb.mono (Nat.le_trans (Nat.le_of_eq HZ1.out.symm) HB7.out.size))); have HOF8 := Lib.hid (HOF7.out.below hb HOF7.out.lt); clear ho hb) | (at_builtin; refine wpList_rows rfl _ _ 43 rfl (w.heap.size + 1) 9 i0 (.string ⟨#[]⟩) 1 16 Tryz.underlying43 Hi.out Hz0.out Hz1.out Hz2.out rfl (by decide) _ _ _ rfl HO8.out _ _ _ rfl HP8.out (ones_strs _) (by have h1 := HM1.out; have h2 := HM2.out; unfold maxLen; omega) (by have h1 := HM1.out; have h2 := HM2.out; omega) (Nat.le_trans (Nat.le_of_eq HZ1.out.symm) HB8.out.size) ?_; intro v9 w9 hown hgn; have HGw9 := Lib.hid hgn; have HO9 := Lib.hid hown; have HB9 := Lib.hid (LinesM.below_grown HB8.out HO8.out hgn (Nat.le_trans (Nat.le_of_eq HZ1.out.symm) HB8.out.size) (Nat.le_refl _)); clear hown hgn; have HOF9 := keep_f HOF8.out (by decide) HO8.out HGw9.out; have p2 := HOF9.cell 2; simp only [List.getElem?_cons_succ, List.getElem?_cons_zero] at p2; clear HOF9; clear g0 g1 g2 g3 g4 g5; have g0 := own_hold6 HO1.out HB9.out (Nat.lt_succ_self _) 0 rfl; have g1 := own_hold6 HO1.out HB9.out (Nat.lt_succ_self _) 1 rfl; have g2 := own_hold6 HO1.out HB9.out (Nat.lt_succ_self _) 2 rfl; have g3 := own_hold6 HO1.out HB9.out (Nat.lt_succ_self _) 3 rfl; have g4 := own_hold6 HO1.out HB9.out (Nat.lt_succ_self _) 4 rfl; have g5 := own_hold6 HO1.out HB9.out (Nat.lt_succ_self _) 5 rfl) | (at_builtin; refine LinesM.wpList_push_at rfl _ _ 43 rfl (w.heap.size + 1) 9 i0 (.string ⟨#[]⟩) 1 16 Tryz.underlying43 Hi.out Hz0.out Hz1.out Hz2.out rfl (by decide) _ _ _ rfl HO9.out [str nm] (w9.heap.size) (by simp) rfl rfl (by simp [Value.oneCell']) (by have h1 := HM1.out; have h2 := HM2.out; unfold maxLen; omega) (by have h1 := HM1.out; have h2 := HM2.out; omega) (Nat.le_trans (Nat.le_of_eq HZ1.out.symm) HB9.out.size) ?_; intro v11 w11 hown hgn; have HGw11 := Lib.hid hgn; have HO11 := Lib.hid hown; have HB11 := Lib.hid (LinesM.below_grown HB9.out HO9.out hgn (Nat.le_trans (Nat.le_of_eq HZ1.out.symm) HB9.out.size) (Nat.le_refl _)); clear hown hgn; clear p2 g0 g1 g2 g3 g4 g5; have g0 := own_hold6 HO1.out HB11.out (Nat.lt_succ_self _) 0 rfl; have g1 := own_hold6 HO1.out HB11.out (Nat.lt_succ_self _) 1 rfl; have g2 := own_hold6 HO1.out HB11.out (Nat.lt_succ_self _) 2 rfl; have g3 := own_hold6 HO1.out HB11.out (Nat.lt_succ_self _) 3 rfl; have g4 := own_hold6 HO1.out HB11.out (Nat.lt_succ_self _) 4 rfl; have g5 := own_hold6 HO1.out HB11.out (Nat.lt_succ_self _) 5 rfl) | ((with_reducible refine (QP2.out _ (HB01.out.trans (HB11.out.mono (Nat.le_succ _)))).mono ?_); rintro e w12 ⟨v12, rfl, ho, hb⟩; have HP12 := Lib.hid (LinesM.own_lower ho (Nat.le_trans (Nat.le_of_eq HZ1.out.symm) HB11.out.size)); have HO12 := Lib.hid (LinesM.own_below HO11.out hb); have HB12 := Lib.hid (HB11.out.trans (hb.mono (Nat.le_trans (Nat.le_of_eq HZ1.out.symm) HB11.out.size))); clear ho hb) | (at_builtin; refine wpList_rows rfl _ _ 43 rfl (w.heap.size + 1) 9 i0 (.string ⟨#[]⟩) 1 16 Tryz.underlying43 Hi.out Hz0.out Hz1.out Hz2.out rfl (by decide) _ _ _ rfl HO12.out _ _ _ rfl HP12.out (ones_strs _) (by have h1 := HM1.out; have h2 := HM2.out; unfold maxLen; omega) (by have h1 := HM1.out; have h2 := HM2.out; omega) (Nat.le_trans (Nat.le_of_eq HZ1.out.symm) HB12.out.size) ?_; intro v13 w13 hown hgn; have HGw13 := Lib.hid hgn; have HO13 := Lib.hid hown; have HB13 := Lib.hid (LinesM.below_grown HB12.out HO12.out hgn (Nat.le_trans (Nat.le_of_eq HZ1.out.symm) HB12.out.size) (Nat.le_refl _)); clear hown hgn))
  all_goals
    go_ret
    refine ⟨_, rfl, row_eq (LinesM.own_lower HO13.out (Nat.le_succ w.heap.size)) (by simp <;> omega) (by simp [LinesM.strs]), HB01.out.trans (HB13.out.mono (Nat.le_succ _))⟩
set_option maxRecDepth 100000 in
set_option maxHeartbeats 16000000 in
theorem instrWords_0no (lo hi : Nat) (w : World) (op : Int) (nm : Wd) (sd z : ByteArray) (l : List Arg) (A B2 B3 : Option Addr) (n cap k2 c2 k3 c3 : Nat) (l0 km : Int) (hx : Args lo hi w (.slice A n cap) l) (hn : n = l.length) (hh : hi ≤ w.heap.size) (hcap : n ≤ cap) (hI : ∀ a ∈ l, argI a) (hl : n ≤ 1048576) (hL : LaidS w) (hfo : formV op = (⟨z.data.toList, false, false, l0, km⟩, true)) (ha : aheadV op = 0) (hk : 0 ≤ n) (e0 : sd.toList.isEmpty = true) :
    Calls Tryz.prog 146 #[.agg #[i64 op, .string sd, str nm, .slice A n cap, .slice B2 k2 c2, .slice B3 k3 c3]] w (WordsP w ((z.data.toList :: ((l.take 0).map putA ++ ([] ++ (l.drop 0).map putA))))) := by
  obtain ⟨i0, hi0, hz0, hz1, hz2⟩ := info_parts s_info
  have Hi := Lib.hid hi0
  have Hz0 := Lib.hid hz0
  have Hz1 := Lib.hid hz1
  have Hz2 := Lib.hid hz2
  have QA := Lib.hid (ahead_to op 0 ha)
  have QO := Lib.hid fun w => of_as op z _ _ l0 km true hfo w
  have HL := Lib.hid hL
  have HX := Lib.hid hx
  have HI := Lib.hid hI
  have HN := Lib.hid hn
  have QP1 := Lib.hid fun (w' : World) (hb : Below w.heap.size w w') => puts_any lo hi w' _ (l.take 0) (Args.move (Still.of_below (hb.mono hh)) (args_take hx hk hcap)) (Nat.le_trans hh hb.size) (fun a ha => hI a (List.mem_of_mem_take ha)) (by rw [List.length_take]; omega)
  have QP2 := Lib.hid fun (w' : World) (hb : Below w.heap.size w w') => puts_any lo hi w' _ l (Args.move (Still.of_below (hb.mono hh)) hx) (Nat.le_trans hh hb.size) (fun a ha => hI a ha) (by omega)
  have HM1 : Hid (((l.take 0).map putA).length ≤ 1048576) := Lib.hid (by rw [List.length_map, List.length_take]; omega)
  have HM2 : Hid ((l.map putA).length ≤ 1048576) := Lib.hid (by rw [List.length_map]; omega)
  clear hi0 hz0 hz1 hz2 hfo hL hx hI hn ha
  have HB0 := Lib.hid ((Below.refl w.heap.size w).alloc (Nat.le_refl _) (.cells #[i64 op, .string sd, str nm, .slice A n cap, .slice B2 k2 c2, .slice B3 k3 c3] 52))
  obtain ⟨W1, hW1⟩ : ∃ W1, w.alloc (.cells #[i64 op, .string sd, str nm, .slice A n cap, .slice B2 k2 c2, .slice B3 k3 c3] 52) = W1 := ⟨_, rfl⟩
  have hz1 : W1.heap.size = w.heap.size + 1 := by rw [← hW1]; simp
  have HZ1 := Lib.hid hz1
  have HW1 := Lib.hid hW1
  have HO1 : Hid (Own W1 w.heap.size 52 [i64 op, .string sd, str nm, .slice A n cap, .slice B2 k2 c2, .slice B3 k3 c3]) := Lib.hid (by rw [← hW1]; exact Own.made w 52 [i64 op, .string sd, str nm, .slice A n cap, .slice B2 k2 c2, .slice B3 k3 c3])
  have HB01 : Hid (Below w.heap.size w W1) := Lib.hid (by rw [← hW1]; exact HB0.out)
  clear hz1 hW1
  go_enter Tryz.func146, Tryz.ntmps146
  go_wp2_with fail
  rw [HW1.out]
  refine (QO.out _ (HL.out.below HB01.out (Nat.le_refl _))).mono ?_; rintro e w5 ⟨rfl, hb5⟩
  obtain ⟨v3, hv3, HO5⟩ : ∃ v3, Value.slice none 0 0 = v3 ∧ Hid (World.ownsRow (w5.alloc (.cells #[.string z, .bool false, .bool false, .int .i64 l0, .int .i64 km] 216)) (w.heap.size + 1) 9 1 v3 0 []) := ⟨_, rfl, Lib.hid (World.ownsRow_nil _ _ _ _)⟩
  rw [hv3]
  clear hv3
  have HB5 : Hid (Below (w.heap.size + 1) W1 w5) := Lib.hid (hb5.mono (by rw [HZ1.out]; omega))
  have hs5 : w.heap.size + 1 ≤ w5.heap.size := by have := hb5.size; rw [HZ1.out] at this; omega
  have HB6 := Lib.hid (HB5.out.alloc hs5 (.cells #[.string z, .bool false, .bool false, .int .i64 l0, .int .i64 km] 216))
  have HOF := Lib.hid (Own.made w5 216 [.string z, .bool false, .bool false, .int .i64 l0, .int .i64 km])
  have HS5 : Hid (w.heap.size < w5.heap.size) := Lib.hid (by omega)
  clear hb5
  go_wp2_with (first | ((with_reducible refine (QA.out _).mono ?_); rintro e w0 ⟨rfl, rfl⟩) | (at_builtin; refine LinesM.wpList_push_at rfl _ _ 43 rfl (w.heap.size + 1) 9 i0 (.string ⟨#[]⟩) 1 16 Tryz.underlying43 Hi.out Hz0.out Hz1.out Hz2.out rfl (by decide) _ _ _ rfl HO5.out [.string z] (w5.heap.size + 1) (by simp) rfl rfl (by simp [Value.oneCell']) (by have h1 := HM1.out; have h2 := HM2.out; unfold maxLen; omega) (by have h1 := HM1.out; have h2 := HM2.out; omega) (Nat.le_trans (Nat.le_of_eq HZ1.out.symm) HB6.out.size) ?_; intro v7 w7 hown hgn; have HGw7 := Lib.hid hgn; have HO7 := Lib.hid hown; have HB7 := Lib.hid (LinesM.below_grown HB6.out HO5.out hgn (Nat.le_trans (Nat.le_of_eq HZ1.out.symm) HB6.out.size) (Nat.le_refl _)); clear hown hgn; have HOF7 := Lib.hid (keep_f HOF.out (by decide) HO5.out HGw7.out); have g0 := own_hold6 HO1.out HB7.out (Nat.lt_succ_self _) 0 rfl; have g1 := own_hold6 HO1.out HB7.out (Nat.lt_succ_self _) 1 rfl; have g2 := own_hold6 HO1.out HB7.out (Nat.lt_succ_self _) 2 rfl; have g3 := own_hold6 HO1.out HB7.out (Nat.lt_succ_self _) 3 rfl; have g4 := own_hold6 HO1.out HB7.out (Nat.lt_succ_self _) 4 rfl; have g5 := own_hold6 HO1.out HB7.out (Nat.lt_succ_self _) 5 rfl) | ((with_reducible refine (QP1.out _ (HB01.out.trans (HB7.out.mono (Nat.le_succ _)))).mono ?_); rintro e w8 ⟨v8, rfl, ho, hb⟩; have HP8 := Lib.hid (LinesM.own_lower ho (Nat.le_trans (Nat.le_of_eq HZ1.out.symm) HB7.out.size)); have HO8 := Lib.hid (LinesM.own_below HO7.out hb); have HB8 := Lib.hid (HB7.out.trans (hb.mono (Nat.le_trans (Nat.le_of_eq HZ1.out.symm) HB7.out.size))); have HOF8 := Lib.hid (HOF7.out.below hb HOF7.out.lt); clear ho hb) | (at_builtin; refine wpList_rows rfl _ _ 43 rfl (w.heap.size + 1) 9 i0 (.string ⟨#[]⟩) 1 16 Tryz.underlying43 Hi.out Hz0.out Hz1.out Hz2.out rfl (by decide) _ _ _ rfl HO8.out _ _ _ rfl HP8.out (ones_strs _) (by have h1 := HM1.out; have h2 := HM2.out; unfold maxLen; omega) (by have h1 := HM1.out; have h2 := HM2.out; omega) (Nat.le_trans (Nat.le_of_eq HZ1.out.symm) HB8.out.size) ?_; intro v9 w9 hown hgn; have HGw9 := Lib.hid hgn; have HO9 := Lib.hid hown; have HB9 := Lib.hid (LinesM.below_grown HB8.out HO8.out hgn (Nat.le_trans (Nat.le_of_eq HZ1.out.symm) HB8.out.size) (Nat.le_refl _)); clear hown hgn; have HOF9 := keep_f HOF8.out (by decide) HO8.out HGw9.out; have p2 := HOF9.cell 2; simp only [List.getElem?_cons_succ, List.getElem?_cons_zero] at p2; clear HOF9; clear g0 g1 g2 g3 g4 g5; have g0 := own_hold6 HO1.out HB9.out (Nat.lt_succ_self _) 0 rfl; have g1 := own_hold6 HO1.out HB9.out (Nat.lt_succ_self _) 1 rfl; have g2 := own_hold6 HO1.out HB9.out (Nat.lt_succ_self _) 2 rfl; have g3 := own_hold6 HO1.out HB9.out (Nat.lt_succ_self _) 3 rfl; have g4 := own_hold6 HO1.out HB9.out (Nat.lt_succ_self _) 4 rfl; have g5 := own_hold6 HO1.out HB9.out (Nat.lt_succ_self _) 5 rfl) | ((with_reducible refine (QP2.out _ (HB01.out.trans (HB9.out.mono (Nat.le_succ _)))).mono ?_); rintro e w12 ⟨v12, rfl, ho, hb⟩; have HP12 := Lib.hid (LinesM.own_lower ho (Nat.le_trans (Nat.le_of_eq HZ1.out.symm) HB9.out.size)); have HO12 := Lib.hid (LinesM.own_below HO9.out hb); have HB12 := Lib.hid (HB9.out.trans (hb.mono (Nat.le_trans (Nat.le_of_eq HZ1.out.symm) HB9.out.size))); clear ho hb) | (at_builtin; refine wpList_rows rfl _ _ 43 rfl (w.heap.size + 1) 9 i0 (.string ⟨#[]⟩) 1 16 Tryz.underlying43 Hi.out Hz0.out Hz1.out Hz2.out rfl (by decide) _ _ _ rfl HO12.out _ _ _ rfl HP12.out (ones_strs _) (by have h1 := HM1.out; have h2 := HM2.out; unfold maxLen; omega) (by have h1 := HM1.out; have h2 := HM2.out; omega) (Nat.le_trans (Nat.le_of_eq HZ1.out.symm) HB12.out.size) ?_; intro v13 w13 hown hgn; have HGw13 := Lib.hid hgn; have HO13 := Lib.hid hown; have HB13 := Lib.hid (LinesM.below_grown HB12.out HO12.out hgn (Nat.le_trans (Nat.le_of_eq HZ1.out.symm) HB12.out.size) (Nat.le_refl _)); clear hown hgn))
  all_goals
    go_ret
    refine ⟨_, rfl, row_eq (LinesM.own_lower HO13.out (Nat.le_succ w.heap.size)) (by simp <;> omega) (by simp [LinesM.strs]), HB01.out.trans (HB13.out.mono (Nat.le_succ _))⟩
set_option maxRecDepth 100000 in
set_option maxHeartbeats 16000000 in
theorem instrWords_1dy (lo hi : Nat) (w : World) (op : Int) (nm : Wd) (sd z : ByteArray) (l : List Arg) (ab ao : Nat) (B2 B3 : Option Addr) (n cap k2 c2 k3 c3 : Nat) (l0 km : Int) (hx : Args lo hi w (.slice (some ⟨ab, ao, none⟩) n cap) l) (hn : n = l.length) (hh : hi ≤ w.heap.size) (hcap : n ≤ cap) (hI : ∀ a ∈ l, argI a) (hl : n ≤ 1048576) (hL : LaidS w) (hfo : formV op = (⟨z.data.toList, true, true, l0, km⟩, true)) (ha : aheadV op = 1) (hk : 1 ≤ n) (e0 : sd.toList.isEmpty = false) :
    Calls Tryz.prog 146 #[.agg #[i64 op, .string sd, str nm, .slice (some ⟨ab, ao, none⟩) n cap, .slice B2 k2 c2, .slice B3 k3 c3]] w (WordsP w ([sd.data.toList, kEq] ++ (z.data.toList :: ((l.take 1).map putA ++ ([nm] ++ (l.drop 1).map putA))))) := by
  obtain ⟨i0, hi0, hz0, hz1, hz2⟩ := info_parts s_info
  have Hi := Lib.hid hi0
  have Hz0 := Lib.hid hz0
  have Hz1 := Lib.hid hz1
  have Hz2 := Lib.hid hz2
  have QA := Lib.hid (ahead_to op 1 ha)
  have QO := Lib.hid fun w => of_as op z _ _ l0 km true hfo w
  have HL := Lib.hid hL
  have HX := Lib.hid hx
  have HI := Lib.hid hI
  have HN := Lib.hid hn
  have QP1 := Lib.hid fun (w' : World) (hb : Below w.heap.size w w') => puts_any lo hi w' _ (l.take 1) (Args.move (Still.of_below (hb.mono hh)) (args_take hx hk hcap)) (Nat.le_trans hh hb.size) (fun a ha => hI a (List.mem_of_mem_take ha)) (by rw [List.length_take]; omega)
  have QP2 := Lib.hid fun (w' : World) (hb : Below w.heap.size w w') => puts_any lo hi w' _ (l.drop 1) (Args.move (Still.of_below (hb.mono hh)) (args_drop (c := cap - 1) hx hk hk (by omega))) (Nat.le_trans hh hb.size) (fun a ha => hI a (List.mem_of_mem_drop ha)) (by rw [List.length_drop]; omega)
  have QP3 := Lib.hid fun (w' : World) (hc : cap - 1 = 0) (hb : Below w.heap.size w w') => puts_any lo hi w' _ (l.drop 1) (Args.move (Still.of_below (hb.mono hh)) (args_end (A2 := some ⟨ab, ao, none⟩) hx hc hk hcap)) (Nat.le_trans hh hb.size) (fun a ha => hI a (List.mem_of_mem_drop ha)) (by rw [List.length_drop]; omega)
  have HM1 : Hid (((l.take 1).map putA).length ≤ 1048576) := Lib.hid (by rw [List.length_map, List.length_take]; omega)
  have HM2 : Hid (((l.drop 1).map putA).length ≤ 1048576) := Lib.hid (by rw [List.length_map]; rw [List.length_drop]; omega)
  clear hi0 hz0 hz1 hz2 hfo hL hx hI hn ha
  have HB0 := Lib.hid ((Below.refl w.heap.size w).alloc (Nat.le_refl _) (.cells #[i64 op, .string sd, str nm, .slice (some ⟨ab, ao, none⟩) n cap, .slice B2 k2 c2, .slice B3 k3 c3] 52))
  obtain ⟨W1, hW1⟩ : ∃ W1, w.alloc (.cells #[i64 op, .string sd, str nm, .slice (some ⟨ab, ao, none⟩) n cap, .slice B2 k2 c2, .slice B3 k3 c3] 52) = W1 := ⟨_, rfl⟩
  have hz1 : W1.heap.size = w.heap.size + 1 := by rw [← hW1]; simp
  have HZ1 := Lib.hid hz1
  have HW1 := Lib.hid hW1
  have HO1 : Hid (Own W1 w.heap.size 52 [i64 op, .string sd, str nm, .slice (some ⟨ab, ao, none⟩) n cap, .slice B2 k2 c2, .slice B3 k3 c3]) := Lib.hid (by rw [← hW1]; exact Own.made w 52 [i64 op, .string sd, str nm, .slice (some ⟨ab, ao, none⟩) n cap, .slice B2 k2 c2, .slice B3 k3 c3])
  have HB01 : Hid (Below w.heap.size w W1) := Lib.hid (by rw [← hW1]; exact HB0.out)
  clear hz1 hW1
  go_enter Tryz.func146, Tryz.ntmps146
  have HLT := Lib.hid (made_row (base := w.heap.size + 1) (g := w.heap.size + 1) (w := w.alloc (.cells #[i64 op, .string sd, str nm, .slice (some ⟨ab, ao, none⟩) n cap, .slice B2 k2 c2, .slice B3 k3 c3] 52)) [.string sd, .string ⟨#[61]⟩] [sd.data.toList, kEq] rfl (by simp) (by simp) (by simp [LinesM.strs, kEq]) (by simp))
  have HB2 : Hid (Below (w.heap.size + 1) W1 ((w.alloc (.cells #[i64 op, .string sd, str nm, .slice (some ⟨ab, ao, none⟩) n cap, .slice B2 k2 c2, .slice B3 k3 c3] 52)).alloc (.cells #[.string sd, .string ⟨#[61]⟩] 9))) := Lib.hid (by rw [HW1.out]; exact (Below.refl _ _).alloc (by rw [HZ1.out]; omega) _)
  go_wp2_with fail
  obtain ⟨v3, hv3, HO3⟩ : ∃ v3, Value.slice (some ⟨w.heap.size + 1 + 1, 0, none⟩) 2 ((Question.appendCap 2 0 9).cut (w.tape w.drawn (Question.appendCap 2 0 9))) = v3 ∧ Hid (World.ownsRow ((((w.alloc (.cells #[i64 op, .string sd, str nm, .slice (some ⟨ab, ao, none⟩) n cap, .slice B2 k2 c2, .slice B3 k3 c3] 52)).alloc (.cells #[.string sd, .string ⟨#[61]⟩] 9)).alloc (.cells (#[.string sd, .string ⟨#[61]⟩] ++ Builtin.zeroCells #[.string ⟨#[]⟩] ((Question.appendCap 2 0 9).cut (w.tape w.drawn (Question.appendCap 2 0 9)) - 2)) 9)).drew) (w.heap.size + 1) 9 1 v3 2 (LinesM.strs [sd.data.toList, kEq])) := ⟨_, rfl, Lib.hid (fresh_row (q := w) (base := w.heap.size + 1) (g := w.heap.size + 1 + 1) (w1 := ((w.alloc (.cells #[i64 op, .string sd, str nm, .slice (some ⟨ab, ao, none⟩) n cap, .slice B2 k2 c2, .slice B3 k3 c3] 52)).alloc (.cells #[.string sd, .string ⟨#[61]⟩] 9))) [.string sd, .string ⟨#[61]⟩] [sd.data.toList, kEq] rfl (by simp [LinesM.strs, kEq]) (by simp) (by simp) (by simp) (by simp) rfl)⟩
  have HB3 := Lib.hid ((HB2.out.alloc (by simp) (.cells (#[.string sd, .string ⟨#[61]⟩] ++ Builtin.zeroCells #[.string ⟨#[]⟩] (grownCap w 2 0 9 - 2)) 9)).drew)
  refine (QO.out _ ((HL.out.below HB01.out (Nat.le_refl _)).below HB3.out (by rw [HZ1.out]; omega))).mono ?_; rintro e w5 ⟨rfl, hb5⟩
  rw [hv3]
  clear hv3
  have HO5 := Lib.hid (World.ownsRow.alloc (LinesM.own_below HO3.out hb5) (.cells #[.string z, .bool true, .bool true, .int .i64 l0, .int .i64 km] 216))
  have HB5 := Lib.hid (HB3.out.trans (hb5.mono (by simp)))
  have hs5 : w.heap.size + 1 ≤ w5.heap.size := by have := hb5.size; simp at this; omega
  have HB6 := Lib.hid (HB5.out.alloc hs5 (.cells #[.string z, .bool true, .bool true, .int .i64 l0, .int .i64 km] 216))
  have HOF := Lib.hid (Own.made w5 216 [.string z, .bool true, .bool true, .int .i64 l0, .int .i64 km])
  have HS5 : Hid (w.heap.size < w5.heap.size) := Lib.hid (by omega)
  clear hb5
  go_wp2_with (first | ((with_reducible refine (QA.out _).mono ?_); rintro e w0 ⟨rfl, rfl⟩) | (at_builtin; refine LinesM.wpList_push_at rfl _ _ 43 rfl (w.heap.size + 1) 9 i0 (.string ⟨#[]⟩) 1 16 Tryz.underlying43 Hi.out Hz0.out Hz1.out Hz2.out rfl (by decide) _ _ _ rfl HO5.out [.string z] (w5.heap.size + 1) (by simp) rfl rfl (by simp [Value.oneCell']) (by have h1 := HM1.out; have h2 := HM2.out; unfold maxLen; omega) (by have h1 := HM1.out; have h2 := HM2.out; omega) (Nat.le_trans (Nat.le_of_eq HZ1.out.symm) HB6.out.size) ?_; intro v7 w7 hown hgn; have HGw7 := Lib.hid hgn; have HO7 := Lib.hid hown; have HB7 := Lib.hid (LinesM.below_grown HB6.out HO5.out hgn (Nat.le_trans (Nat.le_of_eq HZ1.out.symm) HB6.out.size) (Nat.le_refl _)); clear hown hgn; have HOF7 := Lib.hid (keep_f HOF.out (by decide) HO5.out HGw7.out); have g0 := own_hold6 HO1.out HB7.out (Nat.lt_succ_self _) 0 rfl; have g1 := own_hold6 HO1.out HB7.out (Nat.lt_succ_self _) 1 rfl; have g2 := own_hold6 HO1.out HB7.out (Nat.lt_succ_self _) 2 rfl; have g3 := own_hold6 HO1.out HB7.out (Nat.lt_succ_self _) 3 rfl; have g4 := own_hold6 HO1.out HB7.out (Nat.lt_succ_self _) 4 rfl; have g5 := own_hold6 HO1.out HB7.out (Nat.lt_succ_self _) 5 rfl) | ((with_reducible refine (QP1.out _ (HB01.out.trans (HB7.out.mono (Nat.le_succ _)))).mono ?_); rintro e w8 ⟨v8, rfl, ho, hb⟩; have HP8 := Lib.hid (LinesM.own_lower ho (Nat.le_trans (Nat.le_of_eq HZ1.out.symm) HB7.out.size)); have HO8 := Lib.hid (LinesM.own_below HO7.out hb); have HB8 := Lib.hid (HB7.out.trans (hb.mono (Nat.le_trans (Nat.le_of_eq HZ1.out.symm) HB7.out.size))); have HOF8 := Lib.hid (HOF7.out.below hb HOF7.out.lt); clear ho hb) | (at_builtin; refine wpList_rows rfl _ _ 43 rfl (w.heap.size + 1) 9 i0 (.string ⟨#[]⟩) 1 16 Tryz.underlying43 Hi.out Hz0.out Hz1.out Hz2.out rfl (by decide) _ _ _ rfl HO8.out _ _ _ rfl HP8.out (ones_strs _) (by have h1 := HM1.out; have h2 := HM2.out; unfold maxLen; omega) (by have h1 := HM1.out; have h2 := HM2.out; omega) (Nat.le_trans (Nat.le_of_eq HZ1.out.symm) HB8.out.size) ?_; intro v9 w9 hown hgn; have HGw9 := Lib.hid hgn; have HO9 := Lib.hid hown; have HB9 := Lib.hid (LinesM.below_grown HB8.out HO8.out hgn (Nat.le_trans (Nat.le_of_eq HZ1.out.symm) HB8.out.size) (Nat.le_refl _)); clear hown hgn; have HOF9 := keep_f HOF8.out (by decide) HO8.out HGw9.out; have p2 := HOF9.cell 2; simp only [List.getElem?_cons_succ, List.getElem?_cons_zero] at p2; clear HOF9; clear g0 g1 g2 g3 g4 g5; have g0 := own_hold6 HO1.out HB9.out (Nat.lt_succ_self _) 0 rfl; have g1 := own_hold6 HO1.out HB9.out (Nat.lt_succ_self _) 1 rfl; have g2 := own_hold6 HO1.out HB9.out (Nat.lt_succ_self _) 2 rfl; have g3 := own_hold6 HO1.out HB9.out (Nat.lt_succ_self _) 3 rfl; have g4 := own_hold6 HO1.out HB9.out (Nat.lt_succ_self _) 4 rfl; have g5 := own_hold6 HO1.out HB9.out (Nat.lt_succ_self _) 5 rfl) | (at_builtin; refine LinesM.wpList_push_at rfl _ _ 43 rfl (w.heap.size + 1) 9 i0 (.string ⟨#[]⟩) 1 16 Tryz.underlying43 Hi.out Hz0.out Hz1.out Hz2.out rfl (by decide) _ _ _ rfl HO9.out [str nm] (w9.heap.size) (by simp) rfl rfl (by simp [Value.oneCell']) (by have h1 := HM1.out; have h2 := HM2.out; unfold maxLen; omega) (by have h1 := HM1.out; have h2 := HM2.out; omega) (Nat.le_trans (Nat.le_of_eq HZ1.out.symm) HB9.out.size) ?_; intro v11 w11 hown hgn; have HGw11 := Lib.hid hgn; have HO11 := Lib.hid hown; have HB11 := Lib.hid (LinesM.below_grown HB9.out HO9.out hgn (Nat.le_trans (Nat.le_of_eq HZ1.out.symm) HB9.out.size) (Nat.le_refl _)); clear hown hgn; clear p2 g0 g1 g2 g3 g4 g5; have g0 := own_hold6 HO1.out HB11.out (Nat.lt_succ_self _) 0 rfl; have g1 := own_hold6 HO1.out HB11.out (Nat.lt_succ_self _) 1 rfl; have g2 := own_hold6 HO1.out HB11.out (Nat.lt_succ_self _) 2 rfl; have g3 := own_hold6 HO1.out HB11.out (Nat.lt_succ_self _) 3 rfl; have g4 := own_hold6 HO1.out HB11.out (Nat.lt_succ_self _) 4 rfl; have g5 := own_hold6 HO1.out HB11.out (Nat.lt_succ_self _) 5 rfl) | ((with_reducible refine (QP2.out _ (HB01.out.trans (HB11.out.mono (Nat.le_succ _)))).mono ?_); rintro e w12 ⟨v12, rfl, ho, hb⟩; have HP12 := Lib.hid (LinesM.own_lower ho (Nat.le_trans (Nat.le_of_eq HZ1.out.symm) HB11.out.size)); have HO12 := Lib.hid (LinesM.own_below HO11.out hb); have HB12 := Lib.hid (HB11.out.trans (hb.mono (Nat.le_trans (Nat.le_of_eq HZ1.out.symm) HB11.out.size))); clear ho hb) | ((with_reducible refine (QP3.out _ (by omega) (HB01.out.trans (HB11.out.mono (Nat.le_succ _)))).mono ?_); rintro e w12 ⟨v12, rfl, ho, hb⟩; have HP12 := Lib.hid (LinesM.own_lower ho (Nat.le_trans (Nat.le_of_eq HZ1.out.symm) HB11.out.size)); have HO12 := Lib.hid (LinesM.own_below HO11.out hb); have HB12 := Lib.hid (HB11.out.trans (hb.mono (Nat.le_trans (Nat.le_of_eq HZ1.out.symm) HB11.out.size))); clear ho hb) | (at_builtin; refine wpList_rows rfl _ _ 43 rfl (w.heap.size + 1) 9 i0 (.string ⟨#[]⟩) 1 16 Tryz.underlying43 Hi.out Hz0.out Hz1.out Hz2.out rfl (by decide) _ _ _ rfl HO12.out _ _ _ rfl HP12.out (ones_strs _) (by have h1 := HM1.out; have h2 := HM2.out; unfold maxLen; omega) (by have h1 := HM1.out; have h2 := HM2.out; omega) (Nat.le_trans (Nat.le_of_eq HZ1.out.symm) HB12.out.size) ?_; intro v13 w13 hown hgn; have HGw13 := Lib.hid hgn; have HO13 := Lib.hid hown; have HB13 := Lib.hid (LinesM.below_grown HB12.out HO12.out hgn (Nat.le_trans (Nat.le_of_eq HZ1.out.symm) HB12.out.size) (Nat.le_refl _)); clear hown hgn))
  all_goals
    go_ret
    refine ⟨_, rfl, row_eq (LinesM.own_lower HO13.out (Nat.le_succ w.heap.size)) (by simp <;> omega) (by simp [LinesM.strs]), HB01.out.trans (HB13.out.mono (Nat.le_succ _))⟩
set_option maxRecDepth 100000 in
set_option maxHeartbeats 16000000 in
theorem instrWords_1do (lo hi : Nat) (w : World) (op : Int) (nm : Wd) (sd z : ByteArray) (l : List Arg) (ab ao : Nat) (B2 B3 : Option Addr) (n cap k2 c2 k3 c3 : Nat) (l0 km : Int) (hx : Args lo hi w (.slice (some ⟨ab, ao, none⟩) n cap) l) (hn : n = l.length) (hh : hi ≤ w.heap.size) (hcap : n ≤ cap) (hI : ∀ a ∈ l, argI a) (hl : n ≤ 1048576) (hL : LaidS w) (hfo : formV op = (⟨z.data.toList, true, false, l0, km⟩, true)) (ha : aheadV op = 1) (hk : 1 ≤ n) (e0 : sd.toList.isEmpty = false) :
    Calls Tryz.prog 146 #[.agg #[i64 op, .string sd, str nm, .slice (some ⟨ab, ao, none⟩) n cap, .slice B2 k2 c2, .slice B3 k3 c3]] w (WordsP w ([sd.data.toList, kEq] ++ (z.data.toList :: ((l.take 1).map putA ++ ([] ++ (l.drop 1).map putA))))) := by
  obtain ⟨i0, hi0, hz0, hz1, hz2⟩ := info_parts s_info
  have Hi := Lib.hid hi0
  have Hz0 := Lib.hid hz0
  have Hz1 := Lib.hid hz1
  have Hz2 := Lib.hid hz2
  have QA := Lib.hid (ahead_to op 1 ha)
  have QO := Lib.hid fun w => of_as op z _ _ l0 km true hfo w
  have HL := Lib.hid hL
  have HX := Lib.hid hx
  have HI := Lib.hid hI
  have HN := Lib.hid hn
  have QP1 := Lib.hid fun (w' : World) (hb : Below w.heap.size w w') => puts_any lo hi w' _ (l.take 1) (Args.move (Still.of_below (hb.mono hh)) (args_take hx hk hcap)) (Nat.le_trans hh hb.size) (fun a ha => hI a (List.mem_of_mem_take ha)) (by rw [List.length_take]; omega)
  have QP2 := Lib.hid fun (w' : World) (hb : Below w.heap.size w w') => puts_any lo hi w' _ (l.drop 1) (Args.move (Still.of_below (hb.mono hh)) (args_drop (c := cap - 1) hx hk hk (by omega))) (Nat.le_trans hh hb.size) (fun a ha => hI a (List.mem_of_mem_drop ha)) (by rw [List.length_drop]; omega)
  have QP3 := Lib.hid fun (w' : World) (hc : cap - 1 = 0) (hb : Below w.heap.size w w') => puts_any lo hi w' _ (l.drop 1) (Args.move (Still.of_below (hb.mono hh)) (args_end (A2 := some ⟨ab, ao, none⟩) hx hc hk hcap)) (Nat.le_trans hh hb.size) (fun a ha => hI a (List.mem_of_mem_drop ha)) (by rw [List.length_drop]; omega)
  have HM1 : Hid (((l.take 1).map putA).length ≤ 1048576) := Lib.hid (by rw [List.length_map, List.length_take]; omega)
  have HM2 : Hid (((l.drop 1).map putA).length ≤ 1048576) := Lib.hid (by rw [List.length_map]; rw [List.length_drop]; omega)
  clear hi0 hz0 hz1 hz2 hfo hL hx hI hn ha
  have HB0 := Lib.hid ((Below.refl w.heap.size w).alloc (Nat.le_refl _) (.cells #[i64 op, .string sd, str nm, .slice (some ⟨ab, ao, none⟩) n cap, .slice B2 k2 c2, .slice B3 k3 c3] 52))
  obtain ⟨W1, hW1⟩ : ∃ W1, w.alloc (.cells #[i64 op, .string sd, str nm, .slice (some ⟨ab, ao, none⟩) n cap, .slice B2 k2 c2, .slice B3 k3 c3] 52) = W1 := ⟨_, rfl⟩
  have hz1 : W1.heap.size = w.heap.size + 1 := by rw [← hW1]; simp
  have HZ1 := Lib.hid hz1
  have HW1 := Lib.hid hW1
  have HO1 : Hid (Own W1 w.heap.size 52 [i64 op, .string sd, str nm, .slice (some ⟨ab, ao, none⟩) n cap, .slice B2 k2 c2, .slice B3 k3 c3]) := Lib.hid (by rw [← hW1]; exact Own.made w 52 [i64 op, .string sd, str nm, .slice (some ⟨ab, ao, none⟩) n cap, .slice B2 k2 c2, .slice B3 k3 c3])
  have HB01 : Hid (Below w.heap.size w W1) := Lib.hid (by rw [← hW1]; exact HB0.out)
  clear hz1 hW1
  go_enter Tryz.func146, Tryz.ntmps146
  have HLT := Lib.hid (made_row (base := w.heap.size + 1) (g := w.heap.size + 1) (w := w.alloc (.cells #[i64 op, .string sd, str nm, .slice (some ⟨ab, ao, none⟩) n cap, .slice B2 k2 c2, .slice B3 k3 c3] 52)) [.string sd, .string ⟨#[61]⟩] [sd.data.toList, kEq] rfl (by simp) (by simp) (by simp [LinesM.strs, kEq]) (by simp))
  have HB2 : Hid (Below (w.heap.size + 1) W1 ((w.alloc (.cells #[i64 op, .string sd, str nm, .slice (some ⟨ab, ao, none⟩) n cap, .slice B2 k2 c2, .slice B3 k3 c3] 52)).alloc (.cells #[.string sd, .string ⟨#[61]⟩] 9))) := Lib.hid (by rw [HW1.out]; exact (Below.refl _ _).alloc (by rw [HZ1.out]; omega) _)
  go_wp2_with fail
  obtain ⟨v3, hv3, HO3⟩ : ∃ v3, Value.slice (some ⟨w.heap.size + 1 + 1, 0, none⟩) 2 ((Question.appendCap 2 0 9).cut (w.tape w.drawn (Question.appendCap 2 0 9))) = v3 ∧ Hid (World.ownsRow ((((w.alloc (.cells #[i64 op, .string sd, str nm, .slice (some ⟨ab, ao, none⟩) n cap, .slice B2 k2 c2, .slice B3 k3 c3] 52)).alloc (.cells #[.string sd, .string ⟨#[61]⟩] 9)).alloc (.cells (#[.string sd, .string ⟨#[61]⟩] ++ Builtin.zeroCells #[.string ⟨#[]⟩] ((Question.appendCap 2 0 9).cut (w.tape w.drawn (Question.appendCap 2 0 9)) - 2)) 9)).drew) (w.heap.size + 1) 9 1 v3 2 (LinesM.strs [sd.data.toList, kEq])) := ⟨_, rfl, Lib.hid (fresh_row (q := w) (base := w.heap.size + 1) (g := w.heap.size + 1 + 1) (w1 := ((w.alloc (.cells #[i64 op, .string sd, str nm, .slice (some ⟨ab, ao, none⟩) n cap, .slice B2 k2 c2, .slice B3 k3 c3] 52)).alloc (.cells #[.string sd, .string ⟨#[61]⟩] 9))) [.string sd, .string ⟨#[61]⟩] [sd.data.toList, kEq] rfl (by simp [LinesM.strs, kEq]) (by simp) (by simp) (by simp) (by simp) rfl)⟩
  have HB3 := Lib.hid ((HB2.out.alloc (by simp) (.cells (#[.string sd, .string ⟨#[61]⟩] ++ Builtin.zeroCells #[.string ⟨#[]⟩] (grownCap w 2 0 9 - 2)) 9)).drew)
  refine (QO.out _ ((HL.out.below HB01.out (Nat.le_refl _)).below HB3.out (by rw [HZ1.out]; omega))).mono ?_; rintro e w5 ⟨rfl, hb5⟩
  rw [hv3]
  clear hv3
  have HO5 := Lib.hid (World.ownsRow.alloc (LinesM.own_below HO3.out hb5) (.cells #[.string z, .bool true, .bool false, .int .i64 l0, .int .i64 km] 216))
  have HB5 := Lib.hid (HB3.out.trans (hb5.mono (by simp)))
  have hs5 : w.heap.size + 1 ≤ w5.heap.size := by have := hb5.size; simp at this; omega
  have HB6 := Lib.hid (HB5.out.alloc hs5 (.cells #[.string z, .bool true, .bool false, .int .i64 l0, .int .i64 km] 216))
  have HOF := Lib.hid (Own.made w5 216 [.string z, .bool true, .bool false, .int .i64 l0, .int .i64 km])
  have HS5 : Hid (w.heap.size < w5.heap.size) := Lib.hid (by omega)
  clear hb5
  go_wp2_with (first | ((with_reducible refine (QA.out _).mono ?_); rintro e w0 ⟨rfl, rfl⟩) | (at_builtin; refine LinesM.wpList_push_at rfl _ _ 43 rfl (w.heap.size + 1) 9 i0 (.string ⟨#[]⟩) 1 16 Tryz.underlying43 Hi.out Hz0.out Hz1.out Hz2.out rfl (by decide) _ _ _ rfl HO5.out [.string z] (w5.heap.size + 1) (by simp) rfl rfl (by simp [Value.oneCell']) (by have h1 := HM1.out; have h2 := HM2.out; unfold maxLen; omega) (by have h1 := HM1.out; have h2 := HM2.out; omega) (Nat.le_trans (Nat.le_of_eq HZ1.out.symm) HB6.out.size) ?_; intro v7 w7 hown hgn; have HGw7 := Lib.hid hgn; have HO7 := Lib.hid hown; have HB7 := Lib.hid (LinesM.below_grown HB6.out HO5.out hgn (Nat.le_trans (Nat.le_of_eq HZ1.out.symm) HB6.out.size) (Nat.le_refl _)); clear hown hgn; have HOF7 := Lib.hid (keep_f HOF.out (by decide) HO5.out HGw7.out); have g0 := own_hold6 HO1.out HB7.out (Nat.lt_succ_self _) 0 rfl; have g1 := own_hold6 HO1.out HB7.out (Nat.lt_succ_self _) 1 rfl; have g2 := own_hold6 HO1.out HB7.out (Nat.lt_succ_self _) 2 rfl; have g3 := own_hold6 HO1.out HB7.out (Nat.lt_succ_self _) 3 rfl; have g4 := own_hold6 HO1.out HB7.out (Nat.lt_succ_self _) 4 rfl; have g5 := own_hold6 HO1.out HB7.out (Nat.lt_succ_self _) 5 rfl) | ((with_reducible refine (QP1.out _ (HB01.out.trans (HB7.out.mono (Nat.le_succ _)))).mono ?_); rintro e w8 ⟨v8, rfl, ho, hb⟩; have HP8 := Lib.hid (LinesM.own_lower ho (Nat.le_trans (Nat.le_of_eq HZ1.out.symm) HB7.out.size)); have HO8 := Lib.hid (LinesM.own_below HO7.out hb); have HB8 := Lib.hid (HB7.out.trans (hb.mono (Nat.le_trans (Nat.le_of_eq HZ1.out.symm) HB7.out.size))); have HOF8 := Lib.hid (HOF7.out.below hb HOF7.out.lt); clear ho hb) | (at_builtin; refine wpList_rows rfl _ _ 43 rfl (w.heap.size + 1) 9 i0 (.string ⟨#[]⟩) 1 16 Tryz.underlying43 Hi.out Hz0.out Hz1.out Hz2.out rfl (by decide) _ _ _ rfl HO8.out _ _ _ rfl HP8.out (ones_strs _) (by have h1 := HM1.out; have h2 := HM2.out; unfold maxLen; omega) (by have h1 := HM1.out; have h2 := HM2.out; omega) (Nat.le_trans (Nat.le_of_eq HZ1.out.symm) HB8.out.size) ?_; intro v9 w9 hown hgn; have HGw9 := Lib.hid hgn; have HO9 := Lib.hid hown; have HB9 := Lib.hid (LinesM.below_grown HB8.out HO8.out hgn (Nat.le_trans (Nat.le_of_eq HZ1.out.symm) HB8.out.size) (Nat.le_refl _)); clear hown hgn; have HOF9 := keep_f HOF8.out (by decide) HO8.out HGw9.out; have p2 := HOF9.cell 2; simp only [List.getElem?_cons_succ, List.getElem?_cons_zero] at p2; clear HOF9; clear g0 g1 g2 g3 g4 g5; have g0 := own_hold6 HO1.out HB9.out (Nat.lt_succ_self _) 0 rfl; have g1 := own_hold6 HO1.out HB9.out (Nat.lt_succ_self _) 1 rfl; have g2 := own_hold6 HO1.out HB9.out (Nat.lt_succ_self _) 2 rfl; have g3 := own_hold6 HO1.out HB9.out (Nat.lt_succ_self _) 3 rfl; have g4 := own_hold6 HO1.out HB9.out (Nat.lt_succ_self _) 4 rfl; have g5 := own_hold6 HO1.out HB9.out (Nat.lt_succ_self _) 5 rfl) | ((with_reducible refine (QP2.out _ (HB01.out.trans (HB9.out.mono (Nat.le_succ _)))).mono ?_); rintro e w12 ⟨v12, rfl, ho, hb⟩; have HP12 := Lib.hid (LinesM.own_lower ho (Nat.le_trans (Nat.le_of_eq HZ1.out.symm) HB9.out.size)); have HO12 := Lib.hid (LinesM.own_below HO9.out hb); have HB12 := Lib.hid (HB9.out.trans (hb.mono (Nat.le_trans (Nat.le_of_eq HZ1.out.symm) HB9.out.size))); clear ho hb) | ((with_reducible refine (QP3.out _ (by omega) (HB01.out.trans (HB9.out.mono (Nat.le_succ _)))).mono ?_); rintro e w12 ⟨v12, rfl, ho, hb⟩; have HP12 := Lib.hid (LinesM.own_lower ho (Nat.le_trans (Nat.le_of_eq HZ1.out.symm) HB9.out.size)); have HO12 := Lib.hid (LinesM.own_below HO9.out hb); have HB12 := Lib.hid (HB9.out.trans (hb.mono (Nat.le_trans (Nat.le_of_eq HZ1.out.symm) HB9.out.size))); clear ho hb) | (at_builtin; refine wpList_rows rfl _ _ 43 rfl (w.heap.size + 1) 9 i0 (.string ⟨#[]⟩) 1 16 Tryz.underlying43 Hi.out Hz0.out Hz1.out Hz2.out rfl (by decide) _ _ _ rfl HO12.out _ _ _ rfl HP12.out (ones_strs _) (by have h1 := HM1.out; have h2 := HM2.out; unfold maxLen; omega) (by have h1 := HM1.out; have h2 := HM2.out; omega) (Nat.le_trans (Nat.le_of_eq HZ1.out.symm) HB12.out.size) ?_; intro v13 w13 hown hgn; have HGw13 := Lib.hid hgn; have HO13 := Lib.hid hown; have HB13 := Lib.hid (LinesM.below_grown HB12.out HO12.out hgn (Nat.le_trans (Nat.le_of_eq HZ1.out.symm) HB12.out.size) (Nat.le_refl _)); clear hown hgn))
  all_goals
    go_ret
    refine ⟨_, rfl, row_eq (LinesM.own_lower HO13.out (Nat.le_succ w.heap.size)) (by simp <;> omega) (by simp [LinesM.strs]), HB01.out.trans (HB13.out.mono (Nat.le_succ _))⟩
set_option maxRecDepth 100000 in
set_option maxHeartbeats 16000000 in
theorem instrWords_1ny (lo hi : Nat) (w : World) (op : Int) (nm : Wd) (sd z : ByteArray) (l : List Arg) (ab ao : Nat) (B2 B3 : Option Addr) (n cap k2 c2 k3 c3 : Nat) (l0 km : Int) (hx : Args lo hi w (.slice (some ⟨ab, ao, none⟩) n cap) l) (hn : n = l.length) (hh : hi ≤ w.heap.size) (hcap : n ≤ cap) (hI : ∀ a ∈ l, argI a) (hl : n ≤ 1048576) (hL : LaidS w) (hfo : formV op = (⟨z.data.toList, false, true, l0, km⟩, true)) (ha : aheadV op = 1) (hk : 1 ≤ n) (e0 : sd.toList.isEmpty = true) :
    Calls Tryz.prog 146 #[.agg #[i64 op, .string sd, str nm, .slice (some ⟨ab, ao, none⟩) n cap, .slice B2 k2 c2, .slice B3 k3 c3]] w (WordsP w ((z.data.toList :: ((l.take 1).map putA ++ ([nm] ++ (l.drop 1).map putA))))) := by
  obtain ⟨i0, hi0, hz0, hz1, hz2⟩ := info_parts s_info
  have Hi := Lib.hid hi0
  have Hz0 := Lib.hid hz0
  have Hz1 := Lib.hid hz1
  have Hz2 := Lib.hid hz2
  have QA := Lib.hid (ahead_to op 1 ha)
  have QO := Lib.hid fun w => of_as op z _ _ l0 km true hfo w
  have HL := Lib.hid hL
  have HX := Lib.hid hx
  have HI := Lib.hid hI
  have HN := Lib.hid hn
  have QP1 := Lib.hid fun (w' : World) (hb : Below w.heap.size w w') => puts_any lo hi w' _ (l.take 1) (Args.move (Still.of_below (hb.mono hh)) (args_take hx hk hcap)) (Nat.le_trans hh hb.size) (fun a ha => hI a (List.mem_of_mem_take ha)) (by rw [List.length_take]; omega)
  have QP2 := Lib.hid fun (w' : World) (hb : Below w.heap.size w w') => puts_any lo hi w' _ (l.drop 1) (Args.move (Still.of_below (hb.mono hh)) (args_drop (c := cap - 1) hx hk hk (by omega))) (Nat.le_trans hh hb.size) (fun a ha => hI a (List.mem_of_mem_drop ha)) (by rw [List.length_drop]; omega)
  have QP3 := Lib.hid fun (w' : World) (hc : cap - 1 = 0) (hb : Below w.heap.size w w') => puts_any lo hi w' _ (l.drop 1) (Args.move (Still.of_below (hb.mono hh)) (args_end (A2 := some ⟨ab, ao, none⟩) hx hc hk hcap)) (Nat.le_trans hh hb.size) (fun a ha => hI a (List.mem_of_mem_drop ha)) (by rw [List.length_drop]; omega)
  have HM1 : Hid (((l.take 1).map putA).length ≤ 1048576) := Lib.hid (by rw [List.length_map, List.length_take]; omega)
  have HM2 : Hid (((l.drop 1).map putA).length ≤ 1048576) := Lib.hid (by rw [List.length_map]; rw [List.length_drop]; omega)
  clear hi0 hz0 hz1 hz2 hfo hL hx hI hn ha
  have HB0 := Lib.hid ((Below.refl w.heap.size w).alloc (Nat.le_refl _) (.cells #[i64 op, .string sd, str nm, .slice (some ⟨ab, ao, none⟩) n cap, .slice B2 k2 c2, .slice B3 k3 c3] 52))
  obtain ⟨W1, hW1⟩ : ∃ W1, w.alloc (.cells #[i64 op, .string sd, str nm, .slice (some ⟨ab, ao, none⟩) n cap, .slice B2 k2 c2, .slice B3 k3 c3] 52) = W1 := ⟨_, rfl⟩
  have hz1 : W1.heap.size = w.heap.size + 1 := by rw [← hW1]; simp
  have HZ1 := Lib.hid hz1
  have HW1 := Lib.hid hW1
  have HO1 : Hid (Own W1 w.heap.size 52 [i64 op, .string sd, str nm, .slice (some ⟨ab, ao, none⟩) n cap, .slice B2 k2 c2, .slice B3 k3 c3]) := Lib.hid (by rw [← hW1]; exact Own.made w 52 [i64 op, .string sd, str nm, .slice (some ⟨ab, ao, none⟩) n cap, .slice B2 k2 c2, .slice B3 k3 c3])
  have HB01 : Hid (Below w.heap.size w W1) := Lib.hid (by rw [← hW1]; exact HB0.out)
  clear hz1 hW1
  go_enter Tryz.func146, Tryz.ntmps146
  go_wp2_with fail
  rw [HW1.out]
  refine (QO.out _ (HL.out.below HB01.out (Nat.le_refl _))).mono ?_; rintro e w5 ⟨rfl, hb5⟩
  obtain ⟨v3, hv3, HO5⟩ : ∃ v3, Value.slice none 0 0 = v3 ∧ Hid (World.ownsRow (w5.alloc (.cells #[.string z, .bool false, .bool true, .int .i64 l0, .int .i64 km] 216)) (w.heap.size + 1) 9 1 v3 0 []) := ⟨_, rfl, Lib.hid (World.ownsRow_nil _ _ _ _)⟩
  rw [hv3]
  clear hv3
  have HB5 : Hid (Below (w.heap.size + 1) W1 w5) := Lib.hid (hb5.mono (by rw [HZ1.out]; omega))
  have hs5 : w.heap.size + 1 ≤ w5.heap.size := by have := hb5.size; rw [HZ1.out] at this; omega
  have HB6 := Lib.hid (HB5.out.alloc hs5 (.cells #[.string z, .bool false, .bool true, .int .i64 l0, .int .i64 km] 216))
  have HOF := Lib.hid (Own.made w5 216 [.string z, .bool false, .bool true, .int .i64 l0, .int .i64 km])
  have HS5 : Hid (w.heap.size < w5.heap.size) := Lib.hid (by omega)
  clear hb5
  go_wp2_with (first | ((with_reducible refine (QA.out _).mono ?_); rintro e w0 ⟨rfl, rfl⟩) | (at_builtin; refine LinesM.wpList_push_at rfl _ _ 43 rfl (w.heap.size + 1) 9 i0 (.string ⟨#[]⟩) 1 16 Tryz.underlying43 Hi.out Hz0.out Hz1.out Hz2.out rfl (by decide) _ _ _ rfl HO5.out [.string z] (w5.heap.size + 1) (by simp) rfl rfl (by simp [Value.oneCell']) (by have h1 := HM1.out; have h2 := HM2.out; unfold maxLen; omega) (by have h1 := HM1.out; have h2 := HM2.out; omega) (Nat.le_trans (Nat.le_of_eq HZ1.out.symm) HB6.out.size) ?_; intro v7 w7 hown hgn; have HGw7 := Lib.hid hgn; have HO7 := Lib.hid hown; have HB7 := Lib.hid (LinesM.below_grown HB6.out HO5.out hgn (Nat.le_trans (Nat.le_of_eq HZ1.out.symm) HB6.out.size) (Nat.le_refl _)); clear hown hgn; have HOF7 := Lib.hid (keep_f HOF.out (by decide) HO5.out HGw7.out); have g0 := own_hold6 HO1.out HB7.out (Nat.lt_succ_self _) 0 rfl; have g1 := own_hold6 HO1.out HB7.out (Nat.lt_succ_self _) 1 rfl; have g2 := own_hold6 HO1.out HB7.out (Nat.lt_succ_self _) 2 rfl; have g3 := own_hold6 HO1.out HB7.out (Nat.lt_succ_self _) 3 rfl; have g4 := own_hold6 HO1.out HB7.out (Nat.lt_succ_self _) 4 rfl; have g5 := own_hold6 HO1.out HB7.out (Nat.lt_succ_self _) 5 rfl) | ((with_reducible refine (QP1.out _ (HB01.out.trans (HB7.out.mono (Nat.le_succ _)))).mono ?_); rintro e w8 ⟨v8, rfl, ho, hb⟩; have HP8 := Lib.hid (LinesM.own_lower ho (Nat.le_trans (Nat.le_of_eq HZ1.out.symm) HB7.out.size)); have HO8 := Lib.hid (LinesM.own_below HO7.out hb); have HB8 := Lib.hid (HB7.out.trans (hb.mono (Nat.le_trans (Nat.le_of_eq HZ1.out.symm) HB7.out.size))); have HOF8 := Lib.hid (HOF7.out.below hb HOF7.out.lt); clear ho hb) | (at_builtin; refine wpList_rows rfl _ _ 43 rfl (w.heap.size + 1) 9 i0 (.string ⟨#[]⟩) 1 16 Tryz.underlying43 Hi.out Hz0.out Hz1.out Hz2.out rfl (by decide) _ _ _ rfl HO8.out _ _ _ rfl HP8.out (ones_strs _) (by have h1 := HM1.out; have h2 := HM2.out; unfold maxLen; omega) (by have h1 := HM1.out; have h2 := HM2.out; omega) (Nat.le_trans (Nat.le_of_eq HZ1.out.symm) HB8.out.size) ?_; intro v9 w9 hown hgn; have HGw9 := Lib.hid hgn; have HO9 := Lib.hid hown; have HB9 := Lib.hid (LinesM.below_grown HB8.out HO8.out hgn (Nat.le_trans (Nat.le_of_eq HZ1.out.symm) HB8.out.size) (Nat.le_refl _)); clear hown hgn; have HOF9 := keep_f HOF8.out (by decide) HO8.out HGw9.out; have p2 := HOF9.cell 2; simp only [List.getElem?_cons_succ, List.getElem?_cons_zero] at p2; clear HOF9; clear g0 g1 g2 g3 g4 g5; have g0 := own_hold6 HO1.out HB9.out (Nat.lt_succ_self _) 0 rfl; have g1 := own_hold6 HO1.out HB9.out (Nat.lt_succ_self _) 1 rfl; have g2 := own_hold6 HO1.out HB9.out (Nat.lt_succ_self _) 2 rfl; have g3 := own_hold6 HO1.out HB9.out (Nat.lt_succ_self _) 3 rfl; have g4 := own_hold6 HO1.out HB9.out (Nat.lt_succ_self _) 4 rfl; have g5 := own_hold6 HO1.out HB9.out (Nat.lt_succ_self _) 5 rfl) | (at_builtin; refine LinesM.wpList_push_at rfl _ _ 43 rfl (w.heap.size + 1) 9 i0 (.string ⟨#[]⟩) 1 16 Tryz.underlying43 Hi.out Hz0.out Hz1.out Hz2.out rfl (by decide) _ _ _ rfl HO9.out [str nm] (w9.heap.size) (by simp) rfl rfl (by simp [Value.oneCell']) (by have h1 := HM1.out; have h2 := HM2.out; unfold maxLen; omega) (by have h1 := HM1.out; have h2 := HM2.out; omega) (Nat.le_trans (Nat.le_of_eq HZ1.out.symm) HB9.out.size) ?_; intro v11 w11 hown hgn; have HGw11 := Lib.hid hgn; have HO11 := Lib.hid hown; have HB11 := Lib.hid (LinesM.below_grown HB9.out HO9.out hgn (Nat.le_trans (Nat.le_of_eq HZ1.out.symm) HB9.out.size) (Nat.le_refl _)); clear hown hgn; clear p2 g0 g1 g2 g3 g4 g5; have g0 := own_hold6 HO1.out HB11.out (Nat.lt_succ_self _) 0 rfl; have g1 := own_hold6 HO1.out HB11.out (Nat.lt_succ_self _) 1 rfl; have g2 := own_hold6 HO1.out HB11.out (Nat.lt_succ_self _) 2 rfl; have g3 := own_hold6 HO1.out HB11.out (Nat.lt_succ_self _) 3 rfl; have g4 := own_hold6 HO1.out HB11.out (Nat.lt_succ_self _) 4 rfl; have g5 := own_hold6 HO1.out HB11.out (Nat.lt_succ_self _) 5 rfl) | ((with_reducible refine (QP2.out _ (HB01.out.trans (HB11.out.mono (Nat.le_succ _)))).mono ?_); rintro e w12 ⟨v12, rfl, ho, hb⟩; have HP12 := Lib.hid (LinesM.own_lower ho (Nat.le_trans (Nat.le_of_eq HZ1.out.symm) HB11.out.size)); have HO12 := Lib.hid (LinesM.own_below HO11.out hb); have HB12 := Lib.hid (HB11.out.trans (hb.mono (Nat.le_trans (Nat.le_of_eq HZ1.out.symm) HB11.out.size))); clear ho hb) | ((with_reducible refine (QP3.out _ (by omega) (HB01.out.trans (HB11.out.mono (Nat.le_succ _)))).mono ?_); rintro e w12 ⟨v12, rfl, ho, hb⟩; have HP12 := Lib.hid (LinesM.own_lower ho (Nat.le_trans (Nat.le_of_eq HZ1.out.symm) HB11.out.size)); have HO12 := Lib.hid (LinesM.own_below HO11.out hb); have HB12 := Lib.hid (HB11.out.trans (hb.mono (Nat.le_trans (Nat.le_of_eq HZ1.out.symm) HB11.out.size))); clear ho hb) | (at_builtin; refine wpList_rows rfl _ _ 43 rfl (w.heap.size + 1) 9 i0 (.string ⟨#[]⟩) 1 16 Tryz.underlying43 Hi.out Hz0.out Hz1.out Hz2.out rfl (by decide) _ _ _ rfl HO12.out _ _ _ rfl HP12.out (ones_strs _) (by have h1 := HM1.out; have h2 := HM2.out; unfold maxLen; omega) (by have h1 := HM1.out; have h2 := HM2.out; omega) (Nat.le_trans (Nat.le_of_eq HZ1.out.symm) HB12.out.size) ?_; intro v13 w13 hown hgn; have HGw13 := Lib.hid hgn; have HO13 := Lib.hid hown; have HB13 := Lib.hid (LinesM.below_grown HB12.out HO12.out hgn (Nat.le_trans (Nat.le_of_eq HZ1.out.symm) HB12.out.size) (Nat.le_refl _)); clear hown hgn))
  all_goals
    go_ret
    refine ⟨_, rfl, row_eq (LinesM.own_lower HO13.out (Nat.le_succ w.heap.size)) (by simp <;> omega) (by simp [LinesM.strs]), HB01.out.trans (HB13.out.mono (Nat.le_succ _))⟩
set_option maxRecDepth 100000 in
set_option maxHeartbeats 16000000 in
theorem instrWords_1no (lo hi : Nat) (w : World) (op : Int) (nm : Wd) (sd z : ByteArray) (l : List Arg) (ab ao : Nat) (B2 B3 : Option Addr) (n cap k2 c2 k3 c3 : Nat) (l0 km : Int) (hx : Args lo hi w (.slice (some ⟨ab, ao, none⟩) n cap) l) (hn : n = l.length) (hh : hi ≤ w.heap.size) (hcap : n ≤ cap) (hI : ∀ a ∈ l, argI a) (hl : n ≤ 1048576) (hL : LaidS w) (hfo : formV op = (⟨z.data.toList, false, false, l0, km⟩, true)) (ha : aheadV op = 1) (hk : 1 ≤ n) (e0 : sd.toList.isEmpty = true) :
    Calls Tryz.prog 146 #[.agg #[i64 op, .string sd, str nm, .slice (some ⟨ab, ao, none⟩) n cap, .slice B2 k2 c2, .slice B3 k3 c3]] w (WordsP w ((z.data.toList :: ((l.take 1).map putA ++ ([] ++ (l.drop 1).map putA))))) := by
  obtain ⟨i0, hi0, hz0, hz1, hz2⟩ := info_parts s_info
  have Hi := Lib.hid hi0
  have Hz0 := Lib.hid hz0
  have Hz1 := Lib.hid hz1
  have Hz2 := Lib.hid hz2
  have QA := Lib.hid (ahead_to op 1 ha)
  have QO := Lib.hid fun w => of_as op z _ _ l0 km true hfo w
  have HL := Lib.hid hL
  have HX := Lib.hid hx
  have HI := Lib.hid hI
  have HN := Lib.hid hn
  have QP1 := Lib.hid fun (w' : World) (hb : Below w.heap.size w w') => puts_any lo hi w' _ (l.take 1) (Args.move (Still.of_below (hb.mono hh)) (args_take hx hk hcap)) (Nat.le_trans hh hb.size) (fun a ha => hI a (List.mem_of_mem_take ha)) (by rw [List.length_take]; omega)
  have QP2 := Lib.hid fun (w' : World) (hb : Below w.heap.size w w') => puts_any lo hi w' _ (l.drop 1) (Args.move (Still.of_below (hb.mono hh)) (args_drop (c := cap - 1) hx hk hk (by omega))) (Nat.le_trans hh hb.size) (fun a ha => hI a (List.mem_of_mem_drop ha)) (by rw [List.length_drop]; omega)
  have QP3 := Lib.hid fun (w' : World) (hc : cap - 1 = 0) (hb : Below w.heap.size w w') => puts_any lo hi w' _ (l.drop 1) (Args.move (Still.of_below (hb.mono hh)) (args_end (A2 := some ⟨ab, ao, none⟩) hx hc hk hcap)) (Nat.le_trans hh hb.size) (fun a ha => hI a (List.mem_of_mem_drop ha)) (by rw [List.length_drop]; omega)
  have HM1 : Hid (((l.take 1).map putA).length ≤ 1048576) := Lib.hid (by rw [List.length_map, List.length_take]; omega)
  have HM2 : Hid (((l.drop 1).map putA).length ≤ 1048576) := Lib.hid (by rw [List.length_map]; rw [List.length_drop]; omega)
  clear hi0 hz0 hz1 hz2 hfo hL hx hI hn ha
  have HB0 := Lib.hid ((Below.refl w.heap.size w).alloc (Nat.le_refl _) (.cells #[i64 op, .string sd, str nm, .slice (some ⟨ab, ao, none⟩) n cap, .slice B2 k2 c2, .slice B3 k3 c3] 52))
  obtain ⟨W1, hW1⟩ : ∃ W1, w.alloc (.cells #[i64 op, .string sd, str nm, .slice (some ⟨ab, ao, none⟩) n cap, .slice B2 k2 c2, .slice B3 k3 c3] 52) = W1 := ⟨_, rfl⟩
  have hz1 : W1.heap.size = w.heap.size + 1 := by rw [← hW1]; simp
  have HZ1 := Lib.hid hz1
  have HW1 := Lib.hid hW1
  have HO1 : Hid (Own W1 w.heap.size 52 [i64 op, .string sd, str nm, .slice (some ⟨ab, ao, none⟩) n cap, .slice B2 k2 c2, .slice B3 k3 c3]) := Lib.hid (by rw [← hW1]; exact Own.made w 52 [i64 op, .string sd, str nm, .slice (some ⟨ab, ao, none⟩) n cap, .slice B2 k2 c2, .slice B3 k3 c3])
  have HB01 : Hid (Below w.heap.size w W1) := Lib.hid (by rw [← hW1]; exact HB0.out)
  clear hz1 hW1
  go_enter Tryz.func146, Tryz.ntmps146
  go_wp2_with fail
  rw [HW1.out]
  refine (QO.out _ (HL.out.below HB01.out (Nat.le_refl _))).mono ?_; rintro e w5 ⟨rfl, hb5⟩
  obtain ⟨v3, hv3, HO5⟩ : ∃ v3, Value.slice none 0 0 = v3 ∧ Hid (World.ownsRow (w5.alloc (.cells #[.string z, .bool false, .bool false, .int .i64 l0, .int .i64 km] 216)) (w.heap.size + 1) 9 1 v3 0 []) := ⟨_, rfl, Lib.hid (World.ownsRow_nil _ _ _ _)⟩
  rw [hv3]
  clear hv3
  have HB5 : Hid (Below (w.heap.size + 1) W1 w5) := Lib.hid (hb5.mono (by rw [HZ1.out]; omega))
  have hs5 : w.heap.size + 1 ≤ w5.heap.size := by have := hb5.size; rw [HZ1.out] at this; omega
  have HB6 := Lib.hid (HB5.out.alloc hs5 (.cells #[.string z, .bool false, .bool false, .int .i64 l0, .int .i64 km] 216))
  have HOF := Lib.hid (Own.made w5 216 [.string z, .bool false, .bool false, .int .i64 l0, .int .i64 km])
  have HS5 : Hid (w.heap.size < w5.heap.size) := Lib.hid (by omega)
  clear hb5
  go_wp2_with (first | ((with_reducible refine (QA.out _).mono ?_); rintro e w0 ⟨rfl, rfl⟩) | (at_builtin; refine LinesM.wpList_push_at rfl _ _ 43 rfl (w.heap.size + 1) 9 i0 (.string ⟨#[]⟩) 1 16 Tryz.underlying43 Hi.out Hz0.out Hz1.out Hz2.out rfl (by decide) _ _ _ rfl HO5.out [.string z] (w5.heap.size + 1) (by simp) rfl rfl (by simp [Value.oneCell']) (by have h1 := HM1.out; have h2 := HM2.out; unfold maxLen; omega) (by have h1 := HM1.out; have h2 := HM2.out; omega) (Nat.le_trans (Nat.le_of_eq HZ1.out.symm) HB6.out.size) ?_; intro v7 w7 hown hgn; have HGw7 := Lib.hid hgn; have HO7 := Lib.hid hown; have HB7 := Lib.hid (LinesM.below_grown HB6.out HO5.out hgn (Nat.le_trans (Nat.le_of_eq HZ1.out.symm) HB6.out.size) (Nat.le_refl _)); clear hown hgn; have HOF7 := Lib.hid (keep_f HOF.out (by decide) HO5.out HGw7.out); have g0 := own_hold6 HO1.out HB7.out (Nat.lt_succ_self _) 0 rfl; have g1 := own_hold6 HO1.out HB7.out (Nat.lt_succ_self _) 1 rfl; have g2 := own_hold6 HO1.out HB7.out (Nat.lt_succ_self _) 2 rfl; have g3 := own_hold6 HO1.out HB7.out (Nat.lt_succ_self _) 3 rfl; have g4 := own_hold6 HO1.out HB7.out (Nat.lt_succ_self _) 4 rfl; have g5 := own_hold6 HO1.out HB7.out (Nat.lt_succ_self _) 5 rfl) | ((with_reducible refine (QP1.out _ (HB01.out.trans (HB7.out.mono (Nat.le_succ _)))).mono ?_); rintro e w8 ⟨v8, rfl, ho, hb⟩; have HP8 := Lib.hid (LinesM.own_lower ho (Nat.le_trans (Nat.le_of_eq HZ1.out.symm) HB7.out.size)); have HO8 := Lib.hid (LinesM.own_below HO7.out hb); have HB8 := Lib.hid (HB7.out.trans (hb.mono (Nat.le_trans (Nat.le_of_eq HZ1.out.symm) HB7.out.size))); have HOF8 := Lib.hid (HOF7.out.below hb HOF7.out.lt); clear ho hb) | (at_builtin; refine wpList_rows rfl _ _ 43 rfl (w.heap.size + 1) 9 i0 (.string ⟨#[]⟩) 1 16 Tryz.underlying43 Hi.out Hz0.out Hz1.out Hz2.out rfl (by decide) _ _ _ rfl HO8.out _ _ _ rfl HP8.out (ones_strs _) (by have h1 := HM1.out; have h2 := HM2.out; unfold maxLen; omega) (by have h1 := HM1.out; have h2 := HM2.out; omega) (Nat.le_trans (Nat.le_of_eq HZ1.out.symm) HB8.out.size) ?_; intro v9 w9 hown hgn; have HGw9 := Lib.hid hgn; have HO9 := Lib.hid hown; have HB9 := Lib.hid (LinesM.below_grown HB8.out HO8.out hgn (Nat.le_trans (Nat.le_of_eq HZ1.out.symm) HB8.out.size) (Nat.le_refl _)); clear hown hgn; have HOF9 := keep_f HOF8.out (by decide) HO8.out HGw9.out; have p2 := HOF9.cell 2; simp only [List.getElem?_cons_succ, List.getElem?_cons_zero] at p2; clear HOF9; clear g0 g1 g2 g3 g4 g5; have g0 := own_hold6 HO1.out HB9.out (Nat.lt_succ_self _) 0 rfl; have g1 := own_hold6 HO1.out HB9.out (Nat.lt_succ_self _) 1 rfl; have g2 := own_hold6 HO1.out HB9.out (Nat.lt_succ_self _) 2 rfl; have g3 := own_hold6 HO1.out HB9.out (Nat.lt_succ_self _) 3 rfl; have g4 := own_hold6 HO1.out HB9.out (Nat.lt_succ_self _) 4 rfl; have g5 := own_hold6 HO1.out HB9.out (Nat.lt_succ_self _) 5 rfl) | ((with_reducible refine (QP2.out _ (HB01.out.trans (HB9.out.mono (Nat.le_succ _)))).mono ?_); rintro e w12 ⟨v12, rfl, ho, hb⟩; have HP12 := Lib.hid (LinesM.own_lower ho (Nat.le_trans (Nat.le_of_eq HZ1.out.symm) HB9.out.size)); have HO12 := Lib.hid (LinesM.own_below HO9.out hb); have HB12 := Lib.hid (HB9.out.trans (hb.mono (Nat.le_trans (Nat.le_of_eq HZ1.out.symm) HB9.out.size))); clear ho hb) | ((with_reducible refine (QP3.out _ (by omega) (HB01.out.trans (HB9.out.mono (Nat.le_succ _)))).mono ?_); rintro e w12 ⟨v12, rfl, ho, hb⟩; have HP12 := Lib.hid (LinesM.own_lower ho (Nat.le_trans (Nat.le_of_eq HZ1.out.symm) HB9.out.size)); have HO12 := Lib.hid (LinesM.own_below HO9.out hb); have HB12 := Lib.hid (HB9.out.trans (hb.mono (Nat.le_trans (Nat.le_of_eq HZ1.out.symm) HB9.out.size))); clear ho hb) | (at_builtin; refine wpList_rows rfl _ _ 43 rfl (w.heap.size + 1) 9 i0 (.string ⟨#[]⟩) 1 16 Tryz.underlying43 Hi.out Hz0.out Hz1.out Hz2.out rfl (by decide) _ _ _ rfl HO12.out _ _ _ rfl HP12.out (ones_strs _) (by have h1 := HM1.out; have h2 := HM2.out; unfold maxLen; omega) (by have h1 := HM1.out; have h2 := HM2.out; omega) (Nat.le_trans (Nat.le_of_eq HZ1.out.symm) HB12.out.size) ?_; intro v13 w13 hown hgn; have HGw13 := Lib.hid hgn; have HO13 := Lib.hid hown; have HB13 := Lib.hid (LinesM.below_grown HB12.out HO12.out hgn (Nat.le_trans (Nat.le_of_eq HZ1.out.symm) HB12.out.size) (Nat.le_refl _)); clear hown hgn))
  all_goals
    go_ret
    refine ⟨_, rfl, row_eq (LinesM.own_lower HO13.out (Nat.le_succ w.heap.size)) (by simp <;> omega) (by simp [LinesM.strs]), HB01.out.trans (HB13.out.mono (Nat.le_succ _))⟩
theorem byt_empty {x : Wd} {s : ByteArray} (hs : s.data.toList = x) : s.toList.isEmpty = (x == []) := by
  rw [ByteArray.toList_eq, hs]; cases x <;> rfl
theorem form_top (op : Int) : (formV op).1.most ≤ 8 := by
  unfold formV
  split
  · simp
  · simp only
    repeat' split
    all_goals simp
theorem form_word {op : Int} (h : (formV op).2 = true) : (formV op).1.word = opWords.getD op.toNat [] := by
  unfold formV at h ⊢
  split at h
  · simp at h
  · rename_i h1
    rw [if_neg h1]
theorem ahead_form {op : Int} (h : (formV op).2 = true) : aheadV op = 0 ∨ (aheadV op = 1 ∧ 1 ≤ (formV op).1.least) := by
  unfold aheadV
  split
  · rename_i h1
    refine .inr ⟨rfl, ?_⟩
    rcases h1 with rfl | rfl
    · decide
    · decide
  · exact .inl rfl
set_option maxHeartbeats 4000000 in
theorem instrWords_any (lo hi : Nat) (w : World) (cs : List Value) (x : Instr) (hx : InstrC lo hi w cs x) (hh : hi ≤ w.heap.size) (hI : ∀ a ∈ x.args, argI a) (hL : LaidS w) (hR : instrR x = true) :
    Calls Tryz.prog 146 #[.agg cs.toArray] w (WordsP w (instrL x)) := by
  obtain ⟨u1, u2, u3, rfl, k1, k2, k3⟩ := hx
  obtain ⟨op, ds, nm, l, fs, os⟩ := x
  simp only at k1 k2 k3 hI ⊢
  unfold instrR at hR
  simp only [Bool.and_eq_true] at hR
  obtain ⟨hf, hd, hn1, hle, ⟨hmo, _⟩, _⟩ := hR
  have hw := form_word hf
  have hah := ahead_form hf
  have hk8 := form_top op
  obtain ⟨⟨⟨fw, d, m, l0, km⟩, t0⟩, hfo⟩ : ∃ r, formV op = r := ⟨_, rfl⟩
  rw [hfo] at hf hd hn1 hle hmo hw hah hk8
  simp only at hf hd hn1 hle hmo hw hah hk8
  subst hf
  have hlen : l.length ≤ 8 := by
    have := of_decide_eq_true hmo
    omega
  have hle' := of_decide_eq_true hle
  have k0 := k1
  obtain ⟨A, n, cap, b, off, rfl, hn, ⟨_, hcap⟩, ha, _⟩ := k1
  obtain ⟨B2, n2, c2, _, _, rfl, _⟩ := k2
  obtain ⟨B3, n3, c3, _, _, rfl, _⟩ := k3
  have hfo' : formV op = (⟨(ByteArray.mk fw.toArray).data.toList, d, m, l0, km⟩, true) := hfo
  have hdn : (ByteArray.mk ds.toArray).toList.isEmpty = (ds == []) := byt_empty rfl
  have hinstr : instrL ⟨op, ds, nm, l, fs, os⟩ = (if ds = [] then [] else [ds, kEq]) ++ (fw :: ((l.take (aheadV op)).map putA ++ ((if m then [nm] else []) ++ (l.drop (aheadV op)).map putA))) := by
    unfold instrL instrW
    simp only [hfo, hw]
    split <;> simp
  rw [hinstr]
  have hds : d = true → ¬ ds = [] := by
    rintro rfl rfl
    simp [noneR, nameV_nil] at hd
  have hds0 : d = false → ds = [] := by
    rintro rfl
    simpa [noneR] using hd
  rcases hah with hK | ⟨hK, h1⟩
  · rw [hK]
    cases d
    · obtain rfl := hds0 rfl
      cases m
      · exact instrWords_0no lo hi w op nm _ _ l A B2 B3 n cap n2 c2 n3 c3 l0 km k0 hn hh hcap hI (by omega) hL hfo' hK (Nat.zero_le _) hdn
      · exact instrWords_0ny lo hi w op nm _ _ l A B2 B3 n cap n2 c2 n3 c3 l0 km k0 hn hh hcap hI (by omega) hL hfo' hK (Nat.zero_le _) hdn
    · have hne := hds rfl
      rw [if_neg hne]
      have e0 : (ByteArray.mk ds.toArray).toList.isEmpty = false := by rw [hdn]; simpa using hne
      cases m
      · exact instrWords_0do lo hi w op nm _ _ l A B2 B3 n cap n2 c2 n3 c3 l0 km k0 hn hh hcap hI (by omega) hL hfo' hK (Nat.zero_le _) e0
      · exact instrWords_0dy lo hi w op nm _ _ l A B2 B3 n cap n2 c2 n3 c3 l0 km k0 hn hh hcap hI (by omega) hL hfo' hK (Nat.zero_le _) e0
  · rw [hK]
    obtain ⟨rfl, _, _⟩ := ha (by omega)
    cases d
    · obtain rfl := hds0 rfl
      cases m
      · exact instrWords_1no lo hi w op nm _ _ l b off B2 B3 n cap n2 c2 n3 c3 l0 km k0 hn hh hcap hI (by omega) hL hfo' hK (by omega) hdn
      · exact instrWords_1ny lo hi w op nm _ _ l b off B2 B3 n cap n2 c2 n3 c3 l0 km k0 hn hh hcap hI (by omega) hL hfo' hK (by omega) hdn
    · have hne := hds rfl
      rw [if_neg hne]
      have e0 : (ByteArray.mk ds.toArray).toList.isEmpty = false := by rw [hdn]; simpa using hne
      cases m
      · exact instrWords_1do lo hi w op nm _ _ l b off B2 B3 n cap n2 c2 n3 c3 l0 km k0 hn hh hcap hI (by omega) hL hfo' hK (by omega) e0
      · exact instrWords_1dy lo hi w op nm _ _ l b off B2 B3 n cap n2 c2 n3 c3 l0 km k0 hn hh hcap hI (by omega) hL hfo' hK (by omega) e0
end Go.Proofs.YtkmndgjabkjafaaGreatDoor.Sh6
