/-
  Package syntax: a phi.
-/
import Derived.Test.YtkmndgjabkjafaaGreatDoorObj
namespace Go.Proofs.YtkmndgjabkjafaaGreatDoor.Rd5
open Go.RowKit Api Hold Mem Syn WordM Tree

variable {w w' w1 w2 : World} {lo hi rb base N : Nat} {rc : RC} {v : Value} {l ws : List Wd} {row : Option Nat} {a : Tree.Act} {D D2 : List Rec} {p : Prog} {L T : Rec}
theorem in_info : (Tryz.prog.info? 133).map (fun i => (i.zero, i.size, i.bytes)) = some (some (.agg #[.string ⟨#[]⟩, .int .i64 0, .string ⟨#[]⟩, .int .i64 0]), 4, 48) := by kernel_rfl
theorem phi_info : (Tryz.prog.info? 131).map (fun i => (i.zero, i.size, i.bytes)) = some (some (.agg #[.string ⟨#[]⟩, .slice none 0 0]), 2, 40) := by kernel_rfl
theorem ones_in (k n : Int) (x y : Wd) : ∀ u ∈ [str x, i64 k, str y, i64 n], u.oneCell' = true := by
  intro u hu
  simp only [List.mem_cons, List.not_mem_nil, or_false] at hu
  rcases hu with rfl | rfl | rfl | rfl <;> rfl
def phiP (p : Prog) (y : Phi) : Prog := inB p fun b => { b with phis := b.phis ++ [y] }
def phiD (p : Prog) (pl lg : Int) (ov : Bool) (ws : List Wd) : Out :=
  if stB pl 32 = false then none else match takeName ws with
  | none => none
  | some (x, l) => match takeIn l with
    | none => none
    | some (y, l) => match takeAll takeIn l.length l with
      | none => none
      | some vs => some (phiP p ⟨x, y :: vs⟩, pl, lg + 1, (ov || decide ((256 : Int) < ((y :: vs).length : Int))) || decide (1024 < lg + 1), [])
theorem phiD_no {pl lg : Int} {ov : Bool} (h : stB pl 32 = false) : phiD p pl lg ov ws = none := by unfold phiD; rw [if_pos h]
theorem phiD_none {pl lg : Int} {ov : Bool} (h : takeName ws = none) : phiD p pl lg ov ws = none := by
  unfold phiD
  rw [h]
  split <;> rfl
theorem phiD_1 {pl lg : Int} {ov : Bool} {x : Wd} (h : takeName ws = some (x, l)) (h1 : takeIn l = none) : phiD p pl lg ov ws = none := by
  unfold phiD
  rw [h]
  simp only
  rw [h1]
  split <;> rfl
theorem phiD_2 {pl lg : Int} {ov : Bool} {x : Wd} {y : Bind} {l2 : List Wd} (h : takeName ws = some (x, l)) (h1 : takeIn l = some (y, l2)) (h2 : takeAll takeIn l2.length l2 = none) : phiD p pl lg ov ws = none := by
  unfold phiD
  rw [h]
  simp only
  rw [h1]
  simp only
  rw [h2]
  split <;> rfl
theorem phiD_4 {pl lg : Int} {ov : Bool} {x : Wd} {y : Bind} {l2 : List Wd} {vs : List Bind} (h0 : stB pl 32 = true) (h : takeName ws = some (x, l)) (h1 : takeIn l = some (y, l2)) (h2 : takeAll takeIn l2.length l2 = some vs) : phiD p pl lg ov ws = some (phiP p ⟨x, y :: vs⟩, pl, lg + 1, (ov || decide ((256 : Int) < ((y :: vs).length : Int))) || decide (1024 < lg + 1), []) := by
  unfold phiD
  rw [if_neg (by rw [h0]; simp), h]
  simp only
  rw [h1]
  simp only
  rw [h2]
theorem takeArg_less {y : Arg} (h : takeArg ws = some (y, l)) : l.length + 1 = ws.length := by
  unfold takeArg at h
  cases hv : takeVal ws with
  | none => rw [hv] at h; cases h
  | some q =>
    obtain ⟨q1, q2⟩ := q
    rw [hv] at h
    simp only at h
    split at h
    · cases h
    · simp at h
      rw [← h.2]
      exact takeVal_less hv
theorem takeIn_less {y : Bind} (h : takeIn ws = some (y, l)) : l.length + 2 = ws.length := by
  unfold takeIn at h
  cases hn : takeName ws with
  | none => rw [hn] at h; cases h
  | some q =>
    obtain ⟨q1, q2⟩ := q
    rw [hn] at h
    simp only at h
    cases ha : takeArg q2 with
    | none => rw [ha] at h; cases h
    | some q =>
      obtain ⟨q3, q4⟩ := q
      rw [ha] at h
      simp at h
      have h1 := takeName_less hn
      have h2 := takeArg_less ha
      rw [← h.2]
      omega
theorem last_phis (h : St w base rb lo hi rc a D p N ws) (hne : p.funcs ≠ []) (hnb : lastB p ≠ []) : RowIs 131 2 (IsPhi D) a.H (theB p).phis ∧ a.B.n = (lastB p).length := by
  obtain ⟨_, _, _, _, _, _, _, _, _, _, _, _, hq⟩ := func_path h hne
  obtain ⟨_, _, _, hb⟩ := hq
  obtain ⟨init, x, c, e, _, hqb, _⟩ := hb.at hnb
  obtain ⟨c2, _, h1, _⟩ := hqb
  have hl : theB p = x := by unfold theB; exact last_of e
  exact ⟨by rw [hl]; exact h1, hb.2.2.1⟩

theorem Loc.keep {rc' : RC} (h : Loc w base rb lo hi rc a D p N ws L T) (hO : OwnR w' rb rc') (hg : w.grownBy w' (some rb)) (h1 : rc'.ssa = rc.ssa) (h2 : rc'.c = rc.c) (h3 : rc'.g = rc.g) (h4 : rc'.e = rc.e) (h5 : rc'.u = rc.u) (h6 : rc'.rest = rc.rest) : Loc w' base rb lo hi rc' a D p N ws L T :=
  ⟨h.st.keep hO hg h1 h2 h3 h4 h5 h6, ap_same h.ap fun k hk hlt => hg.block k hlt (by have := h.st.mid; intro e; injection e with e; omega)⟩
set_option maxRecDepth 100000 in
set_option maxHeartbeats 8000000 in
theorem phi_any (h : St w base rb lo hi rc a D p N ws) (hN : N < 1073741824) (hws : ws.length ≤ 4194304) (hlg : 0 ≤ rc.long ∧ rc.long ≤ 1000000) (hF : stB rc.place 32 = true → p.funcs ≠ [] ∧ lastB p ≠ []) :
    Calls Tryz.prog 81 #[ptr rb] w (Meth base rb lo hi (N + 1) rc.first w (phiD p rc.place rc.long rc.over ws)) := by
  by_cases hs : stB rc.place 32 = true
  · obtain ⟨hne, hnb⟩ := hF hs
    have HSB := Lib.hid hs
    have HS := Lib.hid (stands_yes h.own hs)
    have Q := Lib.hid (name_take h.own h.wds h.low)
    have HH := Lib.hid h
    have HNE := Lib.hid hne
    have HNB := Lib.hid hnb
    have HWS := Lib.hid hws
    have HLG := Lib.hid hlg
    obtain ⟨i0, hi, hz0, hz1, hz2⟩ := info_parts in_info
    have Hi := Lib.hid hi
    have Hz0 := Lib.hid hz0
    have Hz1 := Lib.hid hz1
    have Hz2 := Lib.hid hz2
    clear h hs hF hne hnb hws hi hz0 hz1 hz2 hlg
    go_enter Tryz.func81, Tryz.ntmps81
    go_wp2_with (first
      | (go_at_call 43; (with_reducible refine (HS.out).mono ?_); rintro e w0 ⟨rfl, rfl⟩)
      | (go_at_call 122; (with_reducible refine (Q.out).mono ?_); intro e w1 hT; rcases take_cases hT with ⟨hn, rfl, hg⟩ | ⟨x, l, v1, hn, rfl, ho, hw, hg⟩; exact ⟨rfl, st_bad HH hg (phiD_none hn)⟩; have hS := HH.out.took ho hw hg; have hl1 := loc_start (t := 131) (size := 2) (t2 := 133) (s2 := 4) (cs := [str x, .slice none 0 0]) hS rfl; have HL1 := Lib.hid hl1; obtain ⟨c1a, z1a, l1a⟩ := hl1.cell (j := 1) rfl; have HN := Lib.hid hn; have HB := Lib.hid ((Beside.of_grown hg HH.out.high).grow (World.grownBy_alloc w1 (.cells #[str x, .slice none 0 0] 131) none) HH.out.high (by simp)); have HLL : Hid (l.length ≤ 4194304) := Lib.hid (by have := HWS.out; have := takeName_less hn; omega); have QV := Lib.hid (in_take hl1.drew.st.own hl1.drew.st.wds hl1.st.low); clear hS hT hn ho hw hg hl1))
    go_region_law (first
      | (go_simp; go_at_call 128; (with_reducible refine (QV.out).mono ?_); intro e w2 hT; rcases take_cases hT with ⟨hn, rfl, hg⟩ | ⟨⟨yx, ⟨ak, as_, an⟩⟩, l2, v2, hn, rfl, ho, hw, hg⟩; exact ⟨rfl, Meth.bad (HB.out.trans (Beside.of_grown (gr_undrew hg) HL1.out.st.high)) (phiD_1 HN.out hn)⟩; have HL2 := Lib.hid (HL1.out.drew.took ho hw hg); obtain ⟨c1b, z1b, l1b⟩ := HL2.out.cell (j := 1) rfl; have c1d := al_cell (x := .cells #[str yx, i64 ak, str as_, i64 an] 133) c1b; have HN2 := Lib.hid hn; have HB2 := Lib.hid (HB.out.trans (Beside.of_grown (gr_undrew hg) HL1.out.st.high)); have HL2L : Hid (l2.length ≤ 4194304) := Lib.hid (by have := HLL.out; have := takeIn_less hn; omega); clear hT hn ho hw hg)
      | (refine step_grow (w0 := w2) rfl _ _ 129 (by rfl) base 133 i0 (.agg #[.string ⟨#[]⟩, .int .i64 0, .string ⟨#[]⟩, .int .i64 0]) 4 48 Tryz.underlying129 Hi.out Hz0.out Hz1.out Hz2.out rfl (by decide) (by decide) (Rec.empty 133 4) rfl rfl (by rfl) HL2.out.onT [str yx, i64 ak, str as_, i64 an] _ rfl (by rfl) rfl (ones_in _ _ _ _) (by simp [Rec.empty]) HL2.out.st.high ?_; intro g cap w3 hG; have HG := Lib.hid hG; obtain ⟨c1c, z1c, l1c⟩ := HL2.out.cell_grew hG (j := 1) rfl; clear hG))
    all_goals
      go_wp2
      go_loopw [20] (fun _ wr => ∃ (vr : Value) (T : Rec) (ls : List Wd) (vs : List Bind), Hid (Loc wr base rb lo hi { rc with rest := vr } a D p N ls (lrec 131 2 w1.heap.size [str x, T.v]) T) ∧ Hid (RowIs 133 4 (fun c x => c = bindC x) T (⟨yx, ⟨ak, as_, an⟩⟩ :: vs)) ∧ Hid (All takeIn l2 ls vs) ∧ Hid (Beside base rb w wr)) (fun _ wr => restLen rb wr)
      case atStart => exact ⟨v2, grew (Rec.empty 133 4) (.slice (some ⟨g, 0, none⟩) (0 + 1) cap) [str yx, i64 ak, str as_, i64 an], l2, [], (HL2.out.grow HG.out).put 1 _, Lib.hid (RowIs.push (x := ⟨yx, ⟨ak, as_, an⟩⟩) (RowIs.none 133 4 (fun c x => c = bindC x)) (by simp) rfl rfl _), Lib.hid (All.start _ _), Lib.hid ((HB2.out.trans (loc_beside HL2.out HG.out)).set (p := ⟨w1.heap.size, 1, none⟩) (.inl (by have := (HL2.out.onL.lt (k := w1.heap.size) rfl).1; exact this)) _)⟩
      case round =>
        clear HG c1c z1c l1c c1b z1b l1b c1d HL2 HB2 QV
        obtain ⟨vr, ⟨Tt, Ts, Tv, Tn, Tcs⟩, ls, vs, HL, HR, HA, HBs⟩ := hrel
        obtain ⟨TA, tc, hTv⟩ := row_val HL.out.onT HR.out.2.2.1
        simp only [List.length_cons] at hTv
        subst hTv
        obtain ⟨c1, z1, l1⟩ := (HL.out.cell (j := 1) rfl)
        obtain ⟨rA, rcap, _, f8⟩ := rest_form HL.out.st
        have hTn : Tn ≤ 4194305 := by have := HR.out.2.2.1; have := HA.out.len; have := HL2L.out; simp only [List.length_cons] at *; omega
        have hTn2 : vs.length ≤ 4194304 := by have := HA.out.len; have := HL2L.out; omega
        cases ls with
        | cons y0 ls =>
          have QV := Lib.hid (in_take HL.out.drew.st.own HL.out.drew.st.wds HL.out.st.low)
          have hlp : 0 < ls.length + 1 := by omega
          rw [List.length_cons] at f8
          go_wp2
          go_region_law (first
            | (go_simp; go_at_call 128; (with_reducible refine (QV.out).mono ?_); intro e w4 hT; rcases take_cases hT with ⟨hn, rfl, hg⟩ | ⟨⟨zx, ⟨bk, bs_, bn⟩⟩, l4, v4, hn, rfl, ho, hw, hg⟩; exact ⟨rfl, Meth.bad (HBs.out.trans (Beside.of_grown (gr_undrew hg) HL.out.st.high)) (phiD_2 HN.out HN2.out (HA.out.bad (List.cons_ne_nil _ _) hn))⟩; have HL4 := Lib.hid (HL.out.drew.took ho hw hg); obtain ⟨c1b, z1b, l1b⟩ := HL4.out.cell (j := 1) rfl; have c1d := al_cell (x := .cells #[str zx, i64 bk, str bs_, i64 bn] 133) c1b; have HA4 := Lib.hid (HA.out.step hn (by have := takeIn_less hn; omega)); have HB4 := Lib.hid (HBs.out.trans (Beside.of_grown (gr_undrew hg) HL.out.st.high)); have HW4 := Lib.hid (takeIn_less hn); clear hT hn ho hw hg)
            | (refine step_grow (w0 := w4) rfl _ _ 129 (by rfl) base 133 i0 (.agg #[.string ⟨#[]⟩, .int .i64 0, .string ⟨#[]⟩, .int .i64 0]) 4 48 Tryz.underlying129 Hi.out Hz0.out Hz1.out Hz2.out rfl (by decide) (by decide) _ HR.out.1 HR.out.2.1 (by rfl) HL4.out.onT [str zx, i64 bk, str bs_, i64 bn] _ rfl (by rfl) rfl (ones_in _ _ _ _) (by simp only; omega) HL4.out.st.high ?_; intro g cap w5 hG; have HG := Lib.hid hG; obtain ⟨c1c, z1c, l1c⟩ := HL4.out.cell_grew hG (j := 1) rfl; clear hG))
          all_goals
            go_wp2
            go_roundw
            case rel => exact ⟨v4, grew ⟨Tt, Ts, .slice TA (vs.length + 1) tc, Tn, Tcs⟩ (.slice (some ⟨g, 0, none⟩) (Tn + 1) cap) [str zx, i64 bk, str bs_, i64 bn], l4, vs ++ [⟨zx, ⟨bk, bs_, bn⟩⟩], (HL4.out.grow HG.out).put 1 (.slice (some ⟨g, 0, none⟩) (Tn + 1) cap), Lib.hid (RowIs.push (x := ⟨zx, ⟨bk, bs_, bn⟩⟩) HR.out (by simp only [List.length_cons]; omega) rfl rfl _), HA4, Lib.hid ((HB4.out.trans (loc_beside HL4.out HG.out)).set (p := ⟨w1.heap.size, 1, none⟩) (.inl (by have := (HL.out.onL.lt (k := w1.heap.size) rfl).1; exact this)) _)⟩
            case measure =>
              have e1 := restLen_of HL.out.st
              have e2 := restLen_of ((HL4.out.grow HG.out).put 1 (.slice (some ⟨g, 0, none⟩) (Tn + 1) cap)).st
              have e3 := HW4.out
              simp only [List.length_cons] at e1 e3
              rw [e1, e2]
              omega
        | nil =>
          rw [List.length_nil] at f8
          go_wp2_with (go_at_call 123; (with_reducible refine (limit_any _ _ HL.out.st.own).mono ?_); rintro e w4 ⟨rfl, ho4, hg4, _⟩; have HLo := Lib.hid (HL.out.keep ho4 hg4 rfl rfl rfl rfl rfl rfl); have HB4 := Lib.hid (HBs.out.trans (Beside.of_grown hg4 HL.out.st.high)); clear ho4 hg4)
          obtain ⟨m, g1, cap1, hlen, hav, hgb, hgl, hm, fR, fV, fB, hz, hqf⟩ := func_path HLo.out.st HNE.out
          obtain ⟨m2, g2, cap2, hlen2, hav2, hgb2, hgl2, hm2, fH, fK, hz2, c2, hqb, hc2⟩ := block_path HLo.out.st HNE.out HNB.out
          obtain ⟨hrH, hbn⟩ := last_phis HLo.out.st HNE.out HNB.out
          have f4 := HLo.out.st.cells.2.2.2.2.1
          rw [hav] at f4
          rw [hav2] at fB
          have QB := Lib.hid (lastBlock_any f4 hm fB hm2)
          have hcn : a.H.n ≤ N := HLo.out.st.bld.few _ (by simp [Act.l])
          have hr2 : g2 ≠ rb := by have := HLo.out.st.mid; omega
          have HR2 := Lib.hid hr2
          have HRH := Lib.hid hrH
          have HCH := Lib.hid fH
          have HZ2 := Lib.hid (hz2 (m2 * 9 + 1))
          have HAV2 := Lib.hid hav2
          have HLL2 := Lib.hid hlen2
          have HBN := Lib.hid hbn
          have HGB2 := Lib.hid hgb2
          have HGL2 := Lib.hid hgl2
          obtain ⟨j0, jz, hj0, hj1, hj2⟩ := info_parts phi_info
          have Hj := Lib.hid jz
          have Hj0 := Lib.hid hj0
          have Hj1 := Lib.hid hj1
          have Hj2 := Lib.hid hj2
          obtain ⟨c0, y0, _⟩ := HLo.out.cell (j := 0) rfl
          obtain ⟨c1, z1, l1⟩ := HLo.out.cell (j := 1) rfl
          have HC0 := Lib.hid c0
          have HC1 := Lib.hid c1
          clear hlen hav hgb hgl hm fR fV fB hz hqf hlen2 hav2 hgb2 hgl2 hm2 fH fK hz2 hqb hc2 hrH hbn f4 hr2 jz hj0 hj1 hj2
          refine (QB.out).mono ?_; rintro e w5 ⟨rfl, hs5⟩
          have HS5 := Lib.hid hs5; have o5 := hs5.cell HCH.out; have k0 := hs5.cell HC0.out; have k1 := hs5.cell HC1.out; have o5d := al_cell (x := .cells #[str x, .slice TA (vs.length + 1) tc] 131) o5; have HLd := Lib.hid (HLo.out.sameH hs5).drew; clear hs5
          go_wp2_with fail
          go_region_law (refine step_grow_d (w0 := w5) rfl _ _ 39 (by rfl) base 131 j0 (.agg #[.string ⟨#[]⟩, .slice none 0 0]) 2 40 Tryz.underlying39 Hj.out Hj0.out Hj1.out Hj2.out rfl (by decide) (by decide) a.H HRH.out.1 HRH.out.2.1 (by rfl) (HLd.out.st.on (by simp [Act.l])) [str x, .slice TA (vs.length + 1) tc] _ rfl (by rfl) rfl (ones_virt _ _ _ _) (by omega) HLd.out.st.high ?_; intro g cap w6 hG; have HGR := Lib.hid hG; have ho2 := own_grown HLd.out.st hG (by simp [Act.l]); obtain ⟨f1c, z1c, l1c⟩ := grew_cell hG (show g2 < w5.drew.heap.size from by have := HGL2.out; have := HS5.out.1; show g2 < w5.heap.size; rw [this]; assumption) (ap_ne (A := [a.C, a.F, a.G, a.E, a.U, a.R, a.V, a.B]) (B := [a.K, a.M, a.O] ++ D) (x := a.B) HLd.out.st.bld.ap (by simp) (by rw [HAV2.out]; rfl)) (HS5.out.drew.cell HCH.out) (HS5.out.drew.thaw HZ2.out); have HO2 := Lib.hid (own_set (a := ⟨g2, m2 * 9 + 1, none⟩) ho2 HR2.out (.slice (some ⟨g, 0, none⟩) (a.H.n + 1) cap)); clear hG ho2)
          all_goals
            go_wp2_with (go_at_call 130; (with_reducible refine (lengthen_any HO2.out HLG.out).mono ?_); rintro e w7 ⟨rfl, ho3, hg3⟩; have HO3 := Lib.hid ho3; have HG3 := Lib.hid hg3; clear ho3 hg3)
            go_end0
            have hap := ap_same (loc_sub1 HLd.out.ap) (w' := w5.drew.alloc (.cells #[str x, .slice TA (vs.length + 1) tc] 131)) fun k _ hk => heap_alloc_old w5.drew _ hk
            have hB := Build.phi (g0 := g2) (cap := cap2) (x := ⟨x, ⟨yx, ⟨ak, as_, an⟩⟩ :: vs⟩) (al_build HLd.out.st.bld (.cells #[str x, .slice TA (vs.length + 1) tc] 131)) HNE.out HNB.out hap (fun _ h => List.mem_cons_of_mem _ h) ⟨_, rfl, .of List.mem_cons_self HR.out⟩ rfl HGR.out (by rw [HAV2.out, HBN.out, HLL2.out]) hN
            rw [HLL2.out, Nat.add_sub_cancel] at hB
            obtain ⟨b1, b2, b3⟩ := inner_end2 HLd.out.st (HB4.out.trans HS5.out.drew.beside) (by simp [Act.l]) HGR.out hB HGB2.out HG3.out
            exact Meth.ok (p2 := phiP p ⟨x, ⟨yx, ⟨ak, as_, an⟩⟩ :: vs⟩) b1 (phiD_4 HSB.out HN.out HN2.out HA.out.done) (HLd.out.st.finish b2 HO3.out b3 HLd.out.st.ssa HLd.out.st.c HLd.out.st.g HLd.out.st.e HLd.out.st.u rfl) rfl rfl (by simp only [List.length_cons]; rfl) rfl
  · have hs : stB rc.place 32 = false := by simpa using hs
    rw [phiD_no hs]
    have Q := Lib.hid (stands_no h.own hs)
    clear h hs hF
    go_enter Tryz.func81, Tryz.ntmps81
    go_wp2_with (go_at_call 43; (with_reducible refine (Q.out).mono ?_); rintro e w1 ⟨rfl, rfl⟩)
    exact ⟨rfl, Beside.refl _ _ _, rfl⟩
end Go.Proofs.YtkmndgjabkjafaaGreatDoor.Rd5
