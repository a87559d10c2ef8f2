/-
  Layer 9: the document's down walked.
-/
import Derived.Test.YtiohngbmddfgfaaFlRef
import Derived.Test.YtiohngbmddfgfaaFlDown
import Derived.Laws.OwnMore
import Derived.OwnWalk
import Derived.Deep.RegionLaw
namespace Go.Proofs.Ytiohngbmddfgfaa.Fl9
open Go.RowKit Api Mem

theorem info_int9 : (Try.prog.info? 3).map (fun i => (i.zero, i.size, i.bytes)) = some (some (.int .i64 0), 1, 8) := by kernel_rfl
theorem info_bool9 : (Try.prog.info? 4).map (fun i => (i.zero, i.size, i.bytes)) = some (some (.bool false), 1, 1) := by kernel_rfl
/-- 'append(s, x)' of one thing onto a row of the call's own. -/
theorem push_own9 {P : Program} {w : World} {ops : Array Oper} {rest : List Oper} {o : Oper} {a : Go.Act} {Q : Exit → Go.Act → World → Prop} (hgd : o.guard = none) (s x : Operand) (t : TypeId)
    (ho : o.op = .call { callee := .builtin .append, args := #[s, x], argTypes := #[t, t] })
    (base : Nat) (e : TypeId) (z : Value) (size bytes : Nat) (ht : P.underlying t = some (.slice e)) (hinf : (P.info? e).map (fun i => (i.zero, i.size, i.bytes)) = some (some z, size, bytes)) (hzs : z.cells.size = size) (hsz : 0 < size)
    (v : Value) (n : Nat) (xs : List Value) (hs : a.eval s = v) (hown : w.ownsRow base e size v n xs)
    (news : List Value) (k : Nat) (hk : k = w.heap.size) (hx : a.eval x = .slice (some ⟨k, 0, none⟩) 1 1) (hl : news.length = size) (h1 : ∀ u ∈ news, u.oneCell' = true)
    (h63 : n + 1 ≤ maxLen) (hbytes : (n + 1) * bytes ≤ 140737488355328) (hbase : base ≤ w.heap.size)
    (h : ∀ v' w', w'.ownsRow base e size v' (n + 1) (xs ++ news) → w.grownBy w' v.ownBlock → wpList P ops Q rest (a.put o.dst v') w') :
    wpList P ops Q (o :: rest) a (w.alloc (.cells news.toArray e)) := by
  subst hk
  obtain ⟨i, hi, hz0, hz1, hz2⟩ := info_parts hinf
  refine wpList_append_own (w := w.alloc (.cells news.toArray e)) hgd s x t ho base e i z size bytes ht hi hz0 hz1 hz2 hzs hsz v n xs hs (hown.alloc _) ⟨w.heap.size, 0, none⟩ 1 1 news hx (by omega) ?_ h1 h63 hbytes (by simp; omega) ?_
  · intro j u hu
    have e1 : (⟨w.heap.size, 0, none⟩ : Addr).add j = ⟨w.heap.size, j, none⟩ := by unfold Addr.add; split <;> simp_all
    rw [e1, (Own.made w e news).cell]
    exact hu
  · intro v' w' h2 h3 _
    exact h v' w' h2 ((World.grownBy_alloc w _ _).trans h3)
/-- 'append(s, x...)' of cells that are read. -/
theorem read_own9 {P : Program} {w : World} {ops : Array Oper} {rest : List Oper} {o : Oper} {a : Go.Act} {Q : Exit → Go.Act → World → Prop} (hgd : o.guard = none) (s x : Operand) (t : TypeId)
    (ho : o.op = .call { callee := .builtin .append, args := #[s, x], argTypes := #[t, t] })
    (base : Nat) (e : TypeId) (z : Value) (size bytes : Nat) (ht : P.underlying t = some (.slice e)) (hinf : (P.info? e).map (fun i => (i.zero, i.size, i.bytes)) = some (some z, size, bytes)) (hzs : z.cells.size = size) (hsz : 0 < size)
    (v : Value) (n : Nat) (xs : List Value) (hs : a.eval s = v) (hown : w.ownsRow base e size v n xs)
    (b off m cap : Nat) (news : List Value) (hx : a.eval x = .slice (some ⟨b, off, none⟩) m cap) (hl : news.length = m * size) (hc : ∀ j u, news[j]? = some u → w.cell? ⟨b, off + j, none⟩ = some u) (h1 : ∀ u ∈ news, u.oneCell' = true)
    (h63 : n + m ≤ maxLen) (hbytes : (n + m) * bytes ≤ 140737488355328) (hbase : base ≤ w.heap.size)
    (h : ∀ v' w', w'.ownsRow base e size v' (n + m) (xs ++ news) → w.grownBy w' v.ownBlock → wpList P ops Q rest (a.put o.dst v') w') :
    wpList P ops Q (o :: rest) a w := by
  obtain ⟨i, hi, hz0, hz1, hz2⟩ := info_parts hinf
  refine wpList_append_own (w := w) hgd s x t ho base e i z size bytes ht hi hz0 hz1 hz2 hzs hsz v n xs hs hown ⟨b, off, none⟩ m cap news hx hl (fun j u hu => ?_) h1 h63 hbytes hbase ?_
  · have e1 : (⟨b, off, none⟩ : Addr).add j = ⟨b, off + j, none⟩ := by unfold Addr.add; split <;> simp_all
    rw [e1]; exact hc j u hu
  · intro v' w' h2 h3 _
    exact h v' w' h2 h3
theorem form9 {w : World} {base : Nat} {e : TypeId} {size : Nat} {v : Value} {n : Nat} {xs : List Value} (h : w.ownsRow base e size v n xs) (h0 : 0 < n) : ∃ g cap, v = .slice (some ⟨g, 0, none⟩) n cap ∧ base ≤ g ∧ g < w.heap.size ∧ n ≤ cap := by
  rcases h.2 with ⟨_, rfl⟩ | ⟨g, cap, cur, rfl, hb, hg, hnc, _⟩
  · omega
  · exact ⟨g, cap, rfl, hb, (Array.getElem?_eq_some_iff.1 hg).1, hnc⟩
theorem any9 {w : World} {base : Nat} {e : TypeId} {size : Nat} {v : Value} {n : Nat} {xs : List Value} (h : w.ownsRow base e size v n xs) : ∃ A cap, v = .slice A n cap := by
  rcases h.2 with ⟨rfl, rfl⟩ | ⟨g, cap, cur, rfl, _⟩
  · exact ⟨_, _, rfl⟩
  · exact ⟨_, _, rfl⟩
theorem kept_other9 {w w' : World} {base e e2 size n size2 n2 : Nat} {v v2 : Value} {xs ys : List Value} (h : w.ownsRow base e size v n xs) (h2 : w.ownsRow base e2 size2 v2 n2 ys) (hne : e ≠ e2) (hg : w.grownBy w' v2.ownBlock) : w'.ownsRow base e size v n xs := h.kept hg (by
  rcases h.2 with ⟨rfl, _⟩ | ⟨k, cap, cur, rfl, hb, hk, r⟩
  · exact .inl rfl
  · right
    rcases h2.2 with ⟨rfl, _⟩ | ⟨k2, cap2, cur2, rfl, _, hk2, _⟩
    · simp [Value.ownBlock]
    · intro e9
      simp only [Value.ownBlock, Option.some.injEq] at e9
      subst e9
      rw [hk] at hk2
      simp only [Option.some.injEq, Obj.cells.injEq] at hk2
      exact hne hk2.2.1)
theorem kept_none9 {w w' : World} {base e size n : Nat} {v : Value} {xs : List Value} (h : w.ownsRow base e size v n xs) (hg : w.grownBy w' none) : w'.ownsRow base e size v n xs := h.kept hg (by
  cases v.ownBlock with
  | none => exact .inl rfl
  | some k => exact .inr (by simp))
theorem set_other9 {w : World} {base e e2 size n n2 c2 g i : Nat} {v u : Value} {xs ys : List Value} (h : w.ownsRow base e size v n xs) (h2 : w.ownsRow base e2 1 (.slice (some ⟨g, 0, none⟩) n2 c2) n2 ys) (hne : e ≠ e2) : (w.setCell ⟨g, i, none⟩ u).ownsRow base e size v n xs := by
  refine ⟨h.1, ?_⟩
  rcases h.2 with hn | ⟨k, cap, cur, rfl, hb, hk, r⟩
  · exact .inl hn
  · refine .inr ⟨k, cap, cur, rfl, hb, ?_, r⟩
    have hkg : k ≠ g := by
      rintro rfl
      rcases h2.2 with ⟨e9, _⟩ | ⟨k2, cap2, cur2, e9, _, hk2, _⟩
      · cases e9
      · simp only [Value.slice.injEq, Option.some.injEq, Addr.mk.injEq, and_true, true_and] at e9
        obtain ⟨rfl, _⟩ := e9
        rw [hk] at hk2
        simp only [Option.some.injEq, Obj.cells.injEq] at hk2
        exact hne hk2.2.1
    exact (RowKit.Below.heap_setCell _ _ _ _ (show k ≠ g from hkg)).trans hk
abbrev bC (m : List Bool) : List Value := m.map Value.bool
abbrev iC (l : List Int) : List Value := l.map i64
/-- what going down answers. -/
def DownP (base n : Nat) (r : List Bool × List Int) (w : World) (e : Ending) (w' : World) : Prop := ∃ vm vl, e = .returned (.tuple #[vm, vl]) ∧ w'.ownsRow base 4 1 vm n (bC r.1) ∧ w'.ownsRow base 3 1 vl r.2.length (iC r.2) ∧ Below base w w' ∧ w.heap.size ≤ w'.heap.size
set_option maxRecDepth 100000 in
set_option maxHeartbeats 16000000 in
theorem down_any (lo hi : Nat) (vg : Value) (g : List (List Int)) (base : Nat) (hb : hi ≤ base) (hn : g.length ≤ 1000) : ∀ (f : Nat) (w : World) (_ : Graph lo hi w vg g) (_ : base ≤ w.heap.size) (p : Nat) (vm vl : Value) (m : List Bool) (l : List Int) (_ : m[p]? = some false) (_ : un m ≤ f) (_ : m.length = g.length) (_ : l.length + un m ≤ 2000)
    (_ : w.ownsRow base 4 1 vm g.length (bC m)) (_ : w.ownsRow base 3 1 vl l.length (iC l)),
    Calls Try.prog 48 #[vg, i64 (p : Int), vm, vl] w (DownP base g.length (downV g f p m l) w)
  | 0, w, hg, hw, p, vm, vl, m, l, hp, hf, hm, hl, om, ol => by
    have := un_set hp
    omega
  | f + 1, w, hg, hw, p, vm, vl, m, l, hp, hf, hm, hl, om, ol => by
    have IH := Lib.hid (down_any lo hi vg g base hb hn f)
    have hpl : p < g.length := by rw [← hm]; exact (List.getElem?_eq_some_iff.1 hp).1
    obtain ⟨A1, k1, rfl⟩ := Row.form hg
    obtain ⟨gm, cm, rfl, hgm, hgml, hcm⟩ := form9 om (by omega)
    obtain ⟨Al, cl, rfl⟩ := any9 ol
    have HG := Lib.hid hg
    have HOM := Lib.hid om
    have HOL := Lib.hid ol
    have HP := Lib.hid hp
    have HUM := Lib.hid hf
    have HML := Lib.hid hm
    have HLL := Lib.hid hl
    clear hg om ol hp hf hm hl
    go_enter Try.func48, Try.ntmps48
    have H0 := HOM.out.1
    have hone : ∀ u ∈ bC m, u.oneCell' = true := by intro u hu; obtain ⟨b, _, rfl⟩ := List.mem_map.1 hu; rfl
    go_wp2_with (at_builtin; refine read_own9 rfl _ _ 49 rfl base 4 _ 1 1 Try.underlying49 info_bool9 rfl (by decide) (.slice none 0 0) 0 [] rfl (World.ownsRow_nil _ _ _ _) gm 0 g.length cm (bC m) rfl H0 (fun j u hu => (HOM.out.cellAt j (by have := (List.getElem?_eq_some_iff.1 hu).1; rw [H0] at this; exact this)).trans hu |> fun h => by rwa [Nat.zero_add]) hone (by unfold maxLen; omega) (by omega) hw ?_; intro v1 w1 hown1 hg1; obtain ⟨gn, cn, rfl, hgn, hgnl, hcn⟩ := form9 hown1 (by omega); have HN1 := Lib.hid (show w1.ownsRow base 4 1 (.slice (some ⟨gn, 0, none⟩) g.length cn) g.length (bC m) by have := hown1; simp only [Nat.zero_add, List.nil_append] at this; exact this); have HL1 := Lib.hid (kept_none9 HOL.out hg1); have HB1 := Lib.hid ((Below.refl base w).grown hg1 hw (fun k hk => by cases hk)); have HS1 := Lib.hid hg1.size; have c1 := HN1.out.cellAt p (by omega); have t1 := HN1.out.frozenAt p; clear hown1 hg1)
    have e1 : (0 : Nat) + g.length = g.length := Nat.zero_add _
    have HNS := Lib.hid (show (w1.setCell ⟨gn, p, none⟩ (.bool true)).ownsRow base 4 1 (.slice (some ⟨gn, 0, none⟩) g.length cn) g.length (bC (m.set p true)) by have := (HN1.out.stored p (.bool true)).1; rw [← List.map_set] at this; exact this)
    have HLS := Lib.hid (set_other9 (i := p) (u := .bool true) HL1.out HN1.out (by decide))
    have HBS := Lib.hid (HB1.out.setCell (p := ⟨gn, p, none⟩) hgn (.bool true))
    obtain ⟨gp, hgp⟩ : ∃ x, g[p]? = some x := ⟨_, List.getElem?_eq_getElem hpl⟩
    have HGP := Lib.hid hgp
    have HDN := Lib.hid (Dn.start (l := l) (n := g.length) HP.out HUM.out HML.out)
    have HGD : Hid (g.getD p [] = gp) := Lib.hid (by rw [List.getD_eq_getElem?_getD, hgp]; rfl)
    have HS2 : Hid (w.heap.size ≤ w1.heap.size) := HS1
    clear hgp c1 t1 hone H0
    go_loopw [10, 3, 11] (fun vn vl i wr => ∃ (j : Nat) (s : List Bool × List Int), j ≤ gp.length ∧ i = .int .i64 j ∧ Hid (s = (gp.take j).foldl (stepV g.length (downV g f)) (m.set p true, l)) ∧ Hid (wr.ownsRow base 4 1 vn g.length (bC s.1)) ∧ Hid (wr.ownsRow base 3 1 vl s.2.length (iC s.2)) ∧ Hid (Dn g.length f m l s) ∧ Hid (Below base w wr) ∧ Hid (w.heap.size ≤ wr.heap.size)) (fun _ _ i _ => gp.length - (intOf i).toNat)
    case atStart => exact ⟨0, (m.set p true, l), Nat.zero_le _, rfl, Lib.hid rfl, HNS, HLS, HDN, HBS, Lib.hid (by simpa using HS2.out)⟩
    case round =>
    obtain ⟨j, s, hj, rfl, HSE, HVN, HVL, HD, HBr, HSr⟩ := hrel
    obtain ⟨gn2, cn2, rfl, hgn2, hgnl2, hcn2⟩ := form9 HVN.out (by omega)
    obtain ⟨Al2, cl2, rfl⟩ := any9 HVL.out
    obtain ⟨b1, o1, rfl⟩ := addr_of9 HG.out (by omega)
    obtain ⟨c2, _, ⟨u2, rfl, kx⟩, n2⟩ := cell_of HG.out HGP.out (HBr.out.mono hb)
    have m2 := n2 _ rfl
    obtain ⟨A3, k3, rfl⟩ := Row.form kx
    have hgpl : gp.length ≤ 4611686018427387903 := by obtain ⟨_, _, _, h, _⟩ := Row.get kx; exact h
    have KX := Lib.hid kx
    clear n2 kx
    by_cases hlt : j < gp.length
    · obtain ⟨x, hx⟩ : ∃ x, gp[j]? = some x := ⟨_, List.getElem?_eq_getElem hlt⟩
      obtain ⟨b2, o2, rfl⟩ := addr_of9 KX.out (by omega)
      obtain ⟨c3, _, rfl, n3⟩ := cell_of KX.out hx (HBr.out.mono hb)
      have m3 := n3 _ rfl
      have HX := Lib.hid hx
      clear n3 hx
      by_cases h1 : 0 ≤ x
      · have e1 : decide ((0 : Int) ≤ x) = true := decide_eq_true h1
        obtain ⟨kk, rfl⟩ : ∃ kk : Nat, x = (kk : Int) := ⟨x.toNat, by omega⟩
        by_cases h2 : kk < g.length
        · have hsl := HD.out.len
          obtain ⟨c, hc⟩ : ∃ c, s.1[kk]? = some c := ⟨_, List.getElem?_eq_getElem (by omega)⟩
          have c9 := (HVN.out.cellAt kk (by omega)).trans (show (bC s.1)[kk]? = some (.bool c) by rw [List.getElem?_map, hc]; rfl)
          have HC := Lib.hid hc
          have HH2 := Lib.hid h2
          clear hc hsl
          cases c with
          | true =>
            have HSE2 : Hid (s = (gp.take (j + 1)).foldl (stepV g.length (downV g f)) (m.set p true, l)) := Lib.hid (by rw [fold_next HX.out, ← HSE.out]; unfold stepV; rw [if_neg (by intro h; have := h.2.2; rw [Int.toNat_natCast, HC.out] at this; cases this)])

            go_wp2_with fail
            go_roundw
            case rel => exact ⟨j + 1, s, by omega, by go_num, HSE2, HVN, HVL, HD, HBr, HSr⟩
            case measure => simp [intOf]; omega
          | false =>
            have hsum := HD.out.sum
            have QD := Lib.hid (IH.out wr (Graph.move (Still.of_below (HBr.out.mono hb)) HG.out) (Nat.le_trans hw HSr.out) kk _ _ s.1 s.2 HC.out HD.out.fuel HD.out.len (by have := HLL.out; omega) HVN.out HVL.out)
            have HST : Hid (stepV g.length (downV g f) s (kk : Int) = downV g f kk s.1 s.2) := Lib.hid (by unfold stepV; rw [if_pos ⟨by omega, by have := HH2.out; omega, by rw [Int.toNat_natCast]; exact HC.out⟩, Int.toNat_natCast])
            have HD2 : Hid (Dn g.length f m l (downV g f kk s.1 s.2)) := Lib.hid (by rw [← HST.out]; exact HD.out.step (down_good g f) _)
            have HSE2 : Hid (downV g f kk s.1 s.2 = (gp.take (j + 1)).foldl (stepV g.length (downV g f)) (m.set p true, l)) := Lib.hid (by rw [fold_next HX.out, ← HSE.out]; exact HST.out.symm)
            clear hsum
            go_wp2_with fail
            refine QD.out.mono ?_
            rintro e w6 ⟨vm6, vl6, rfl, om6, ol6, hb6, hs6⟩
            have HM6 := Lib.hid om6
            have HL6 := Lib.hid ol6
            have HB6 := Lib.hid (HBr.out.trans hb6)
            have HS6 := Lib.hid (Nat.le_trans HSr.out hs6)
            clear om6 ol6 hb6 hs6 c9 m2 m3
            go_wp2_with fail
            go_roundw
            case rel => exact ⟨j + 1, downV g f kk s.1 s.2, by omega, by go_num, HSE2, HM6, HL6, HD2, HB6, HS6⟩
            case measure => simp [intOf]; omega
        · have e2 : decide ((kk : Int) < (g.length : Int)) = false := decide_eq_false (by omega)
          have e3 : decide (kk < g.length) = false := decide_eq_false h2
          have HH2 := Lib.hid h2
          have HSE2 : Hid (s = (gp.take (j + 1)).foldl (stepV g.length (downV g f)) (m.set p true, l)) := Lib.hid (by rw [fold_next HX.out, ← HSE.out]; unfold stepV; rw [if_neg (by intro h; have := h.2.1; have := HH2.out; omega)])
          clear h2
          go_wp2_with fail
          go_roundw
          case rel => exact ⟨j + 1, s, by omega, by go_num, HSE2, HVN, HVL, HD, HBr, HSr⟩
          case measure => simp [intOf]; omega
      · have e1 : decide ((0 : Int) ≤ x) = false := decide_eq_false h1
        have HH1 := Lib.hid h1
        have HSE2 : Hid (s = (gp.take (j + 1)).foldl (stepV g.length (downV g f)) (m.set p true, l)) := Lib.hid (by rw [fold_next HX.out, ← HSE.out]; unfold stepV; rw [if_neg (by intro h; exact HH1.out h.1)])
        clear h1
        go_wp2_with fail
        go_roundw
        case rel => exact ⟨j + 1, s, by omega, by go_num, HSE2, HVN, HVL, HD, HBr, HSr⟩
        case measure => simp [intOf]; omega
    · have HEND : Hid (s = gp.foldl (stepV g.length (downV g f)) (m.set p true, l)) := Lib.hid (by have := HSE.out; rwa [List.take_of_length_le (by omega)] at this)
      have HRES : Hid (downV g (f + 1) p m l = (s.1, s.2 ++ [(p : Int)])) := Lib.hid (by unfold downV; rw [HGD.out, ← HEND.out])
      have hsum := HD.out.sum
      have hll := HLL.out
      have hws := Nat.le_trans hw HSr.out
      go_wp2_with (at_builtin; refine push_own9 rfl _ _ 31 rfl base 3 _ 1 8 Try.underlying31 info_int9 rfl (by decide) (.slice Al2 s.2.length cl2) s.2.length _ rfl HVL.out [i64 (p : Int)] _ rfl rfl rfl (by intro u hu; rw [List.mem_singleton] at hu; subst hu; rfl) (by unfold maxLen; omega) (by omega) hws ?_; intro v7 w7 hown7 hg7; have HL7 := Lib.hid hown7; have HM7 := Lib.hid (kept_other9 HVN.out HVL.out (by decide) hg7); have HB7 := Lib.hid (HBr.out.grown hg7 hws (fun q hq => (HVL.out.lt q hq).1)); have HS7 := Lib.hid (Nat.le_trans HSr.out hg7.size); clear hown7 hg7)
      go_ret2
      rw [HRES.out]
      exact ⟨_, _, rfl, HM7.out, by simpa [iC] using HL7.out, HB7.out, HS7.out⟩
end Go.Proofs.Ytiohngbmddfgfaa.Fl9
