/-
  Layer 9: package flow walked: what is a point, and going down with a stack.
-/
import Derived.Test.YtiohngbmddfgfaaFlDownW
import Derived.Test.YtiohngbmddfgfaaFlIter
import Derived.Test.YtiohngbmddfgfaaFlCome
import Derived.Test.YtiohngbmddfgfaaHold
import Derived.Laws.MakeOwn
import Derived.Deep.LoopGhost
import Derived.Deep.QuietTactic
import Derived.BigQuiet
namespace Go.Proofs.Ytiohngbmddfgfaa.Fl9
open Go.RowKit Api Mem

set_option maxRecDepth 100000 in
set_option maxHeartbeats 8000000 in
theorem isPoint_any (w : World) (A : Option Addr) (n cap : Nat) (_ : n ≤ 4611686018427387903) (x : Int) :
    Calls Try.prog 39 #[.slice A n cap, i64 x] w fun e w' => e = .returned (.bool (decide (0 ≤ x ∧ x < (n : Int)))) ∧ w = w' := by
  by_cases h1 : 0 ≤ x
  · by_cases h2 : x < (n : Int)
    · have e1 : decide ((0 : Int) ≤ x) = true := decide_eq_true h1
      have e2 : decide (x < (n : Int)) = true := decide_eq_true h2
      have e3 : decide (0 ≤ x ∧ x < (n : Int)) = true := decide_eq_true ⟨h1, h2⟩
      rw [e3]
      clear h1 h2 e3
      go_enter Try.func39, Try.ntmps39
      go_wp2_with fail
      go_ret
      exact ⟨rfl, rfl⟩
    · have e1 : decide ((0 : Int) ≤ x) = true := decide_eq_true h1
      have e2 : decide (x < (n : Int)) = false := decide_eq_false h2
      have e3 : decide (0 ≤ x ∧ x < (n : Int)) = false := decide_eq_false (fun h => h2 h.2)
      rw [e3]
      clear h1 h2 e3
      go_enter Try.func39, Try.ntmps39
      go_wp2_with fail
      go_ret
      exact ⟨rfl, rfl⟩
  · have e1 : decide ((0 : Int) ≤ x) = false := decide_eq_false h1
    have e3 : decide (0 ≤ x ∧ x < (n : Int)) = false := decide_eq_false (fun h => h1 h.1)
    rw [e3]
    clear h1 e3
    go_enter Try.func39, Try.ntmps39
    go_wp2_with fail
    go_ret
    exact ⟨rfl, rfl⟩
theorem pop_own9 {w : World} {base : Nat} {e : TypeId} {v : Value} {s : Nat} {xs : List Value} {u : Value} (h : w.ownsRow base e 1 v (s + 1) (xs ++ [u])) : ∃ g cap, v = .slice (some ⟨g, 0, none⟩) (s + 1) cap ∧ base ≤ g ∧ g < w.heap.size ∧ s + 1 ≤ cap ∧ w.cell? ⟨g, s, none⟩ = some u ∧ w.ownsRow base e 1 (.slice (some ⟨g, 0, none⟩) s cap) s xs := by
  have hl := h.1
  simp at hl
  rcases h.2 with ⟨_, h0⟩ | ⟨g, cap, cur, rfl, hb, hg, hnc, hcm, hcs, ht⟩
  · omega
  · refine ⟨g, cap, rfl, hb, (Array.getElem?_eq_some_iff.1 hg).1, hnc, ?_, ⟨by omega, .inr ⟨g, cap, cur, rfl, hb, hg, by omega, hcm, hcs, ?_⟩⟩⟩
    · rw [h.cellAt s (by omega), List.getElem?_append_right (by omega)]
      simp [hl]
    · have h2 := congrArg (List.take (s * 1)) ht
      rw [List.take_take] at h2
      have e1 : min (s * 1) ((s + 1) * 1) = s * 1 := by omega
      rw [e1] at h2
      rw [h2, List.take_left' (by omega)]
/-- the first row without its last element. -/
theorem apart_pop {w : World} {base : Nat} {t : TypeId} {v : Value} {s : Nat} {xs : List Value} {u : Value} {R : List Hold.Rec} (h : Hold.Apart w base (⟨t, 1, v, s + 1, xs ++ [u]⟩ :: R)) : ∃ g cap, v = .slice (some ⟨g, 0, none⟩) (s + 1) cap ∧ s + 1 ≤ cap ∧ w.cell? ⟨g, s, none⟩ = some u ∧ Hold.Apart w base (⟨t, 1, .slice (some ⟨g, 0, none⟩) s cap, s, xs⟩ :: R) := by
  obtain ⟨g, cap, rfl, h1, h2, h3, h4, h5⟩ := pop_own9 h.head
  refine ⟨g, cap, rfl, h3, h4, fun x hx => ?_, ?_⟩
  · rcases List.mem_cons.1 hx with rfl | hx
    · exact h5
    · exact h.1 x (by simp [hx])
  · have := h.2
    simpa [Value.ownBlock] using this
abbrev nC (l : List Nat) : List Value := l.map fun (p : Nat) => i64 (p : Int)
theorem start9 (w : World) (n b : Nat) (hb : w.heap.size = b) (W : World) (h : ((w.alloc (.cells (bC ((List.replicate n false).set 0 true)).toArray 4)).alloc (.cells (nC (List.replicate n 0)).toArray 3)).alloc (.cells #[i64 0] 3) = W) :
    Own W b 4 (bC ((List.replicate n false).set 0 true)) ∧ Own W (b + 1) 3 (nC (List.replicate n 0)) ∧ Hold.Apart W (b + 2) [⟨3, 1, .slice (some ⟨b + 1 + 1, 0, none⟩) 1 1, 1, nC [0]⟩, ⟨3, 1, .slice none 0 0, 0, iC []⟩] ∧ Below b w W := by
  subst hb
  subst h
  refine ⟨((Own.made w _ _).alloc _).alloc _, ?_, ⟨fun x hx => ?_, ?_⟩, (((Below.refl _ _).alloc (Nat.le_refl _) _).alloc (by simp) _).alloc (by simp; omega) _⟩
  · have := Own.made (w.alloc (.cells (bC ((List.replicate n false).set 0 true)).toArray 4)) 3 (nC (List.replicate n 0))
    have h2 := this.alloc (.cells #[i64 0] 3)
    simpa using h2
  · simp only [List.mem_cons, List.not_mem_nil, or_false] at hx
    rcases hx with rfl | rfl
    · have := World.ownsRow_lit (base := w.heap.size + 2) (e := 3) (size := 1) ((w.alloc (.cells (bC ((List.replicate n false).set 0 true)).toArray 4)).alloc (.cells (nC (List.replicate n 0)).toArray 3)) #[i64 0] 1 (by simp) (by unfold maxLen; omega) rfl
      simpa [Hold.Rec.on, nC] using this
    · exact World.ownsRow_nil _ _ _ _
  · simp [Value.ownBlock]
/-- 'append(s, x)' of one element that lies in a block of its own: the first row grows, the others stand. -/
theorem grow9 {P : Program} {w : World} {ops : Array Oper} {rest : List Oper} {o : Oper} {a : Go.Act} {Q : Exit → Go.Act → World → Prop} {R : List Hold.Rec} (hgd : o.guard = none) (s x : Operand) (t : TypeId)
    (ho : o.op = .call { callee := .builtin .append, args := #[s, x], argTypes := #[t, t] })
    (base : Nat) (e : TypeId) (z : Value) (size bytes : Nat) (ht : P.underlying t = some (.slice e)) (hinf : (P.info? e).map (fun i => (i.zero, i.size, i.bytes)) = some (some z, size, bytes)) (hzs : z.cells.size = size) (hsz : 0 < size)
    (v : Value) (n : Nat) (xs : List Value) (hs : a.eval s = v)
    (news : List Value) (k : Nat) (hx : a.eval x = .slice (some ⟨k, 0, none⟩) 1 1) (hl : news.length = size) (h1 : ∀ u ∈ news, u.oneCell' = true)
    (h63 : n + 1 ≤ 9223372036854775807) (hbytes : (n + 1) * bytes ≤ 140737488355328)
    (hown : Hold.Apart w base (⟨e, size, v, n, xs⟩ :: R)) (hk : Own w k e news) (hbase : base ≤ w.heap.size)
    (h : ∀ v' w', Hold.Apart w' base (⟨e, size, v', n + 1, xs ++ news⟩ :: R) → Below base w w' → wpList P ops Q rest (a.put o.dst v') w') :
    wpList P ops Q (o :: rest) a w := by
  obtain ⟨i, hi, hz, hsize, hby⟩ := info_parts hinf
  have ho2 : w.ownsRow base e size v n xs := hown.head
  have hnews : ∀ (j : Nat) (u : Value), news[j]? = some u → w.cell? ((⟨k, 0, none⟩ : Addr).add j) = some u := by
    intro j u hu
    have e1 : (⟨k, 0, none⟩ : Addr).add j = ⟨k, j, none⟩ := by unfold Addr.add; split <;> simp_all
    rw [e1, hk.cell]
    exact hu
  refine wpList_plain hgd fun K hK => ?_
  obtain ⟨v', w', hr, h2, h3, _⟩ := run_append_own (P := P) w base t o.type e i z size bytes ht hi hz hsize hby hzs hsz v n xs ho2 ⟨k, 0, none⟩ 1 1 news (by omega) hnews h1 (by unfold maxLen; omega) hbytes hbase
  obtain ⟨v2, w2, hr2, h4⟩ := Hold.append_block (P := P) w base t o.type e i z ht hi hz v n xs (by rw [hsize]; exact ho2) ⟨k, 0, none⟩ 1 1 news (by omega) hnews h1 (by omega) h63 (by rw [hby]; exact hbytes)
  have e3 : v2 = v' := by
    rw [hr] at hr2
    injection hr2 with e1 _
    exact e1.symm
  subst e3
  have ha := hown.grow h3 h2 (by
    rcases h4 with h4 | h4
    · exact .inl h4
    · right; intro k hk; rw [h4] at hk; injection hk with hk; subst hk; exact Nat.le_refl _)
  have hb2 : Below base w w' := (Below.refl base w).grown h3 hbase fun k hk => (World.ownsRow.lt ho2 k hk).1
  unfold Oper.wp execOp
  simp only [ho, resolve, invoke, builtin, Sem.run_bind, Sem.run_pure, Result.andThen_ok, List.map_toArray, List.map_cons, List.map_nil, hs, hx, hr]
  exact hK _ _ (h v2 w' ha hb2)
theorem made_two9 (w : World) (k : Nat) (hk : k = w.heap.size) (t : TypeId) (cs : List Value) : Own (w.alloc (.cells cs.toArray t)).drew.drew k t cs := by subst hk; exact (Own.made w t cs).drew.drew
theorem below_two9 (w : World) (o : Obj) : Below w.heap.size w (w.alloc o).drew.drew := ((Below.refl _ _).alloc (Nat.le_refl _) _).drew.drew
theorem apart_set9 {w : World} {base : Nat} {R : List Hold.Rec} (h : Hold.Apart w base R) {a : Addr} (ha : a.block < base) (u : Value) : Hold.Apart (w.setCell a u) base R := ⟨fun x hx => RowKit.ownsRow_setCell_below (h.1 x hx) ha u, h.2⟩
theorem made_below9 (w : World) (o : Obj) : Below w.heap.size w (w.alloc o).drew := ((Below.refl _ _).alloc (Nat.le_refl _) _).drew
theorem info_in9 : ∃ i, Try.prog.info? 3 = some i ∧ i.zero = some (.int .i64 0) ∧ i.size = 1 ∧ i.bytes = 8 := by
  obtain ⟨i, h1, h2, h3, h4⟩ := info_parts info_int9
  exact ⟨i, h1, h2, h3, h4⟩
set_option maxRecDepth 100000 in
set_option maxHeartbeats 16000000 in
theorem down_prog (lo hi : Nat) (w : World) (v : Value) (g : List (List Int)) (hg : Graph lo hi w v g) (hh : hi ≤ w.heap.size) (hn : g.length ≤ 1000) :
    Calls Try.prog 37 #[v] w (DownP w.heap.size g.length (startV g) w) := by
  obtain ⟨A1, k1, rfl⟩ := Row.form hg
  have hmm := fun (w : World) => run_row9 (P := Try.prog) (t := 49) Try.underlying49 info_bool9 rfl (by decide) g.length (by omega) w
  have hmi := fun (w : World) => run_row9 (P := Try.prog) (t := 31) Try.underlying31 info_int9 rfl (by decide) g.length (by omega) w
  by_cases h0 : g.length = 0
  · have e0 : ((g.length : Int) == 0) = true := by rw [h0]; rfl
    have HG := Lib.hid hg
    have H0 := Lib.hid h0
    have HN := Lib.hid hn
    clear h0 hg
    go_enter Try.func37, Try.ntmps37
    go_wp2_with fail
    go_ret2
    have e : startV g = ([], []) := by
      have h0 := H0.out
      obtain rfl : g = [] := List.eq_nil_of_length_eq_zero h0
      rfl
    rw [e]
    refine ⟨_, _, rfl, ?_, World.ownsRow_nil _ _ _ _, (Below.refl _ _).alloc (Nat.le_refl _) _, by simp⟩
    have h := row_made9 (w := w) (e := 4) (z := .bool false) g.length w.heap.size rfl rfl (by have := HN.out; omega)
    have e2 : List.replicate g.length (Value.bool false) = bC [] := by rw [H0.out]; rfl
    rw [e2] at h
    simpa [H0.out] using h
  · have e0 : ((g.length : Int) == 0) = false := by rw [beq_eq_false_iff_ne]; omega
    have hpos : 0 < g.length := by omega
    have HG := Lib.hid hg
    have H0 := Lib.hid h0
    have HN := Lib.hid hn
    clear h0 hg
    go_enter Try.func37, Try.ntmps37
    go_wp2_with fail
    rw [show (Array.replicate g.length (Value.bool false)).setIfInBounds 0 (.bool true) = (bC ((List.replicate g.length false).set 0 true)).toArray by apply Array.ext'; simp [bC]]
    rw [show Array.replicate g.length (Value.int IntKind.i64 0) = (nC (List.replicate g.length 0)).toArray by apply Array.ext'; simp [nC]]
    obtain ⟨W, hW⟩ : ∃ W, ((w.alloc (.cells (bC ((List.replicate g.length false).set 0 true)).toArray 4)).alloc (.cells (nC (List.replicate g.length 0)).toArray 3)).alloc (.cells #[i64 0] 3) = W := ⟨_, rfl⟩
    obtain ⟨s1, s2, s3, s4⟩ := start9 w g.length _ rfl W hW
    have HS1 := Lib.hid s1
    have HS2 := Lib.hid s2
    have HS3 := Lib.hid s3
    have HS4 := Lib.hid s4
    rw [hW]
    clear s1 s2 s3 s4 hW hmm hmi
    go_loopg [3, 5] (remV g (List.replicate g.length 0) + g.length) (fun k vl vs wr => ∃ (m : List Bool) (l : List Int) (c T : List Nat), remV g c + (g.length - l.length) ≤ k ∧ Hid (It g m l c T) ∧ Hid (Own wr w.heap.size 4 (bC m)) ∧ Hid (Own wr (w.heap.size + 1) 3 (nC c)) ∧ Hid (Hold.Apart wr (w.heap.size + 2) [⟨3, 1, vs, T.length, nC T.reverse⟩, ⟨3, 1, vl, l.length, iC l⟩]) ∧ Hid (Below w.heap.size w wr))
    case atStart => exact ⟨_, [], _, [0], by simp, Lib.hid (it_start H0.out), HS1, HS2, HS3, HS4⟩
    case round =>
    obtain ⟨m, l, c, T, hk, HI, HM, HC, HA, HB⟩ := hrel
    cases T with
    | nil =>
      obtain ⟨As, cs, hvs⟩ := HA.out.head.form
      obtain ⟨Al, cl, hvl⟩ := HA.out.tail.head.form
      simp only [List.length_nil] at hvs hvl
      have HVS := Lib.hid hvs
      subst hvs
      subst hvl
      go_wp2_with fail
      go_ret2
      have hf := HI.out.fin
      have e : startV g = (m, l) := by rw [← hf]; rfl
      rw [e]
      have hl := HI.out.lm
      exact ⟨_, _, rfl, by rw [← hl]; exact HM.out.row (Nat.le_refl _) (Nat.le_refl _) (by unfold maxLen; have := HN.out; omega) (by simp) (List.take_of_length_le (by simp)), (HA.out.tail.head.lower (by omega)), HB.out, HB.out.size⟩
    | cons p r =>
      have hA := HA.out
      rw [List.reverse_cons, show nC (r.reverse ++ [p]) = nC r.reverse ++ [i64 (p : Int)] by simp [nC]] at hA
      obtain ⟨gs, cs, hvs, hsc, n9, hA2⟩ := apart_pop (s := r.length) hA
      subst hvs
      have HA2 := Lib.hid hA2
      have hsum := HI.out.sum
      have hrl : r.length ≤ 1000 := by have := HN.out; simp only [List.length_cons] at hsum; omega
      have hpm := HI.out.stk p (by simp)
      have hpl : p < g.length := by have := (List.getElem?_eq_some_iff.1 hpm).1; have := HI.out.lm; omega
      have hll : l.length ≤ 1000 := by have := HN.out; omega
      obtain ⟨k, hck⟩ : ∃ k, c[p]? = some k := ⟨_, List.getElem?_eq_getElem (by rw [HI.out.lc]; exact hpl)⟩
      have c8 := (HC.out.cell p).trans (show (nC c)[p]? = some (i64 (k : Int)) by rw [List.getElem?_map, hck]; rfl)
      have c8t := HC.out.thaw p
      obtain ⟨gp, hgp⟩ : ∃ x, g[p]? = some x := ⟨_, List.getElem?_eq_getElem hpl⟩
      have HGP := Lib.hid hgp
      have hgd : g.getD p [] = gp := by rw [List.getD_eq_getElem?_getD, hgp]; rfl
      obtain ⟨b1, o1, rfl⟩ := addr_of9 HG.out (by omega)
      obtain ⟨c2, _, ⟨u2, rfl, kx⟩, n2⟩ := cell_of HG.out HGP.out (HB.out.mono hh)
      have m2 := n2 _ rfl
      obtain ⟨A3, k3, rfl⟩ := Row.form kx
      have hgpl : gp.length ≤ 4611686018427387903 := by obtain ⟨_, _, _, h, _⟩ := Row.get kx; exact h
      have KX := Lib.hid kx
      have HCK := Lib.hid hck
      have hkl := HI.out.cb p k hck
      rw [hgd] at hkl
      have HGD := Lib.hid hgd
      have HPM := Lib.hid hpm
      have HSUM := Lib.hid hsum
      clear n2 kx hA hA2 hck hgd hpm hsum hgp
      obtain ⟨ii, hi1, hi2, hi3, hi4⟩ := info_in9
      have HII : Hid (Try.prog.info? 3 = some ii ∧ ii.zero = some (.int .i64 0) ∧ ii.size = 1 ∧ ii.bytes = 8) := Lib.hid ⟨hi1, hi2, hi3, hi4⟩
      clear hi1 hi2 hi3 hi4
      have hws : w.heap.size + 2 ≤ wr.heap.size := HC.out.lt
      by_cases he : k = gp.length
      · subst he
        have e1 : ((gp.length : Int) == (gp.length : Int)) = true := by simp
        obtain ⟨Al, cl, hvl⟩ := HA2.out.tail.head.form
        simp only at hvl
        subst hvl
        have HA3 := Lib.hid (HA2.out.perm (List.Perm.swap _ _ _))
        have HIP := Lib.hid (HI.out.pop (by rw [HGD.out]; exact HCK.out))
        go_wp2_with fail
        go_region
        go_wp2_with (at_builtin; refine grow9 (R := [⟨3, 1, .slice (some ⟨gs, 0, none⟩) r.length cs, r.length, nC r.reverse⟩]) rfl _ _ 31 rfl (w.heap.size + 2) 3 _ 1 8 Try.underlying31 info_int9 rfl Nat.one_pos (.slice Al l.length cl) l.length _ rfl [i64 (p : Int)] _ rfl rfl (by intro u hu; rw [List.mem_singleton] at hu; subst hu; rfl) (by omega) (by omega) (HA3.out.below (made_below9 wr _)) (Own.made wr _ _).drew (Nat.le_trans hws (made_below9 wr _).size) ?_; intro v7 w7 hA7 hB7; have HA7 := Lib.hid hA7; have HB7 := Lib.hid ((made_below9 wr _).mono hws |>.trans hB7); clear hA7 hB7)
        go_roundg (remV g c + (g.length - (l.length + 1)))
        case measure => have := HSUM.out; simp only [List.length_cons] at this; omega
        case rel => exact ⟨m, l ++ [(p : Int)], c, r, by simp, HIP, Lib.hid (HM.out.below HB7.out (by omega)), Lib.hid (HC.out.below HB7.out (by omega)), Lib.hid (by have := HA7.out.perm (List.Perm.swap _ _ _); simpa [iC] using this), Lib.hid (HB.out.trans (HB7.out.mono (by omega)))⟩
      · have e1 : ((k : Int) == (gp.length : Int)) = false := by simp; omega
        have hkl2 : k < gp.length := by omega
        obtain ⟨x, hx⟩ : ∃ x, gp[k]? = some x := ⟨_, List.getElem?_eq_getElem hkl2⟩
        obtain ⟨b2, o2, rfl⟩ := addr_of9 KX.out (by omega)
        obtain ⟨c3, _, rfl, n3⟩ := cell_of KX.out hx (HB.out.mono hh)
        have m3 := n3 _ rfl
        have HX := Lib.hid hx
        clear n3 hx
        go_wp2_with fail
        go_region
        go_wp2_with fail
        go_region
        have HM1 := Lib.hid (HM.out.below ((Below.refl (w.heap.size + 1) wr).setCell (p := ⟨w.heap.size + 1, p, none⟩) (Nat.le_refl _) (.int .i64 ((k : Int) + 1))) (Nat.lt_succ_self _))
        have HC1 := Lib.hid (show Own (wr.setCell ⟨w.heap.size + 1, p, none⟩ (.int .i64 ((k : Int) + 1))) (w.heap.size + 1) 3 (nC (c.set p (k + 1))) by have := HC.out.store p (.int .i64 ((k : Int) + 1)); simpa [nC, List.map_set] using this)
        have HB1 := Lib.hid (HB.out.setCell (p := ⟨w.heap.size + 1, p, none⟩) (Nat.le_succ _) (.int .i64 ((k : Int) + 1)))
        have HA1 := Lib.hid (apart_set9 HA.out (a := ⟨w.heap.size + 1, p, none⟩) (Nat.lt_succ_self _) (.int .i64 ((k : Int) + 1)))
        have hrem := rem_set HCK.out HGP.out hkl2
        by_cases hp : 0 ≤ x ∧ x < (g.length : Int)
        · have e2 : decide (0 ≤ x ∧ x < (g.length : Int)) = true := decide_eq_true hp
          obtain ⟨q, rfl⟩ : ∃ q : Nat, x = (q : Int) := ⟨x.toNat, by omega⟩
          have hql : q < g.length := by omega
          obtain ⟨b, hb⟩ : ∃ b, m[q]? = some b := ⟨_, List.getElem?_eq_getElem (by rw [HI.out.lm]; exact hql)⟩
          have c9 := (HM1.out.cell q).trans (show (bC m)[q]? = some (.bool b) by rw [List.getElem?_map, hb]; rfl)
          have c9t := HM1.out.thaw q
          have HB' := Lib.hid hb
          clear hb hp
          cases b with
          | true =>
            have HI1 := Lib.hid (HI.out.skip HCK.out (by rw [HGD.out]; exact HX.out) (by intro h; have := h.2.2; rw [Int.toNat_natCast, HB'.out] at this; cases this))
            go_wp2_with fail
            refine (isPoint_any _ _ _ _ (by omega) _).mono ?_
            rintro e w1 ⟨rfl, rfl⟩
            rw [e2]
            go_wp2_with fail
            go_roundg (remV g (c.set p (k + 1)) + (g.length - l.length))
            case measure => omega
            case rel => exact ⟨m, l, c.set p (k + 1), p :: r, Nat.le_refl _, HI1, HM1, HC1, HA1, Lib.hid HB1.out.drew.drew⟩
          | false =>
            have HI1 := Lib.hid (HI.out.push HCK.out (by rw [HGD.out]; exact HX.out) HB'.out)
            have HM2 := Lib.hid (show Own ((wr.setCell ⟨w.heap.size + 1, p, none⟩ (.int .i64 ((k : Int) + 1))).setCell ⟨w.heap.size, q, none⟩ (.bool true)) w.heap.size 4 (bC (m.set q true)) by have := HM1.out.store q (.bool true); simpa [bC, List.map_set] using this)
            have HC2 := Lib.hid (show Own ((wr.setCell ⟨w.heap.size + 1, p, none⟩ (.int .i64 ((k : Int) + 1))).setCell ⟨w.heap.size, q, none⟩ (.bool true)) (w.heap.size + 1) 3 (nC (c.set p (k + 1))) from (Below.heap_setCell _ _ _ _ (show w.heap.size + 1 ≠ w.heap.size by omega)).trans HC1.out)
            have HB2 := Lib.hid (HB1.out.setCell (p := ⟨w.heap.size, q, none⟩) (Nat.le_refl _) (.bool true))
            have HA4 := Lib.hid (apart_set9 HA1.out (a := ⟨w.heap.size, q, none⟩) (show w.heap.size < w.heap.size + 2 by omega) (.bool true))
            have hws2 : w.heap.size + 2 ≤ ((wr.setCell ⟨w.heap.size + 1, p, none⟩ (.int .i64 ((k : Int) + 1))).setCell ⟨w.heap.size, q, none⟩ (.bool true)).heap.size := HC2.out.lt
            clear hrem
            go_wp2_with fail
            refine (isPoint_any _ _ _ _ (by omega) _).mono ?_
            rintro e w1 ⟨rfl, rfl⟩
            rw [e2]
            go_wp2_with (at_builtin; refine grow9 (R := [⟨3, 1, u3, l.length, iC l⟩]) rfl _ _ 31 rfl (w.heap.size + 2) 3 _ 1 8 Try.underlying31 info_int9 rfl Nat.one_pos (.slice (some ⟨gs, 0, none⟩) (r.length + 1) cs) (r.length + 1) _ rfl [i64 (q : Int)] _ rfl rfl (by intro u hu; rw [List.mem_singleton] at hu; subst hu; rfl) (by omega) (by omega) (HA4.out.below (below_two9 _ _)) (made_two9 _ _ (by simp) _ _) (Nat.le_trans hws2 (below_two9 _ _).size) ?_; intro v7 w7 hA7 hB7; have HA7 := Lib.hid hA7; have HB7 := Lib.hid ((below_two9 _ _).mono hws2 |>.trans hB7); clear hA7 hB7)
            go_roundg (remV g (c.set p (k + 1)) + (g.length - l.length))
            case measure => have := rem_set HCK.out HGP.out hkl2; omega
            case rel => exact ⟨m.set q true, l, c.set p (k + 1), q :: p :: r, Nat.le_refl _, HI1, Lib.hid (HM2.out.below HB7.out (by omega)), Lib.hid (HC2.out.below HB7.out (by omega)), Lib.hid (by have := HA7.out; simpa [nC] using this), Lib.hid (HB2.out.trans (HB7.out.mono (by omega)))⟩
        · have e2 : decide (0 ≤ x ∧ x < (g.length : Int)) = false := decide_eq_false hp
          have HI1 := Lib.hid (HI.out.skip HCK.out (by rw [HGD.out]; exact HX.out) (fun h => hp ⟨h.1, h.2.1⟩))
          clear hp
          go_wp2_with fail
          refine (isPoint_any _ _ _ _ (by omega) _).mono ?_
          rintro e w1 ⟨rfl, rfl⟩
          rw [e2]
          go_wp2_with fail
          go_roundg (remV g (c.set p (k + 1)) + (g.length - l.length))
          case measure => omega
          case rel => exact ⟨m, l, c.set p (k + 1), p :: r, Nat.le_refl _, HI1, HM1, HC1, HA1, Lib.hid HB1.out.drew.drew⟩
end Go.Proofs.Ytiohngbmddfgfaa.Fl9
