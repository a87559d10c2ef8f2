/-
  Package syntax: an object of a state.
-/
import Derived.Test.YtkmndgjabkjafaaGreatDoorLocT
namespace Go.Proofs.YtkmndgjabkjafaaGreatDoor.Rd5
open Go.RowKit Api Hold Mem Syn WordM Tree

variable {w w' w1 w2 : World} {lo hi rb base N : Nat} {rc : RC} {v : Value} {l ws : List Wd} {row : Option Nat} {a : Tree.Act} {D D2 : List Rec} {p : Prog} {L T : Rec}
theorem arg_info : (Tryz.prog.info? 42).map (fun i => (i.zero, i.size, i.bytes)) = some (some (.agg #[.int .i64 0, .string ⟨#[]⟩, .int .i64 0]), 3, 32) := by kernel_rfl
theorem virt_info : (Tryz.prog.info? 169).map (fun i => (i.zero, i.size, i.bytes)) = some (some (.agg #[.string ⟨#[]⟩, .slice none 0 0]), 2, 40) := by kernel_rfl
theorem ones_arg (k n : Int) (x : Wd) : ∀ u ∈ [i64 k, str x, i64 n], u.oneCell' = true := by
  intro u hu
  simp only [List.mem_cons, List.not_mem_nil, or_false] at hu
  rcases hu with rfl | rfl | rfl <;> rfl
theorem ones_virt (x : Wd) (A : Option Addr) (n c : Nat) : ∀ u ∈ [str x, .slice A n c], u.oneCell' = true := by
  intro u hu
  simp only [List.mem_cons, List.not_mem_nil, or_false] at hu
  rcases hu with rfl | rfl <;> rfl
abbrev theI (p : Prog) : Api.Instr := (theB p).code.getLast?.getD instrZ
def objP (p : Prog) (y : Virt) : Prog := inB p fun b => { b with code := Syn.last (fun i => { i with objs := i.objs ++ [y] }) b.code }
def objD (p : Prog) (pl lg : Int) (ov : Bool) (ws : List Wd) : Out :=
  if stB pl 384 = false then none else match takeName ws with
  | none => none
  | some (x, l) => match takeAll takeVal l.length l with
    | none => none
    | some vs => if 8 < vs.length then none else some (objP p ⟨x, vs⟩, 256, lg, ov || decide ((99 : Int) < (((theI p).objs.length + 1 : Nat) : Int)), [])
theorem objD_no {pl lg : Int} {ov : Bool} (h : stB pl 384 = false) : objD p pl lg ov ws = none := by unfold objD; rw [if_pos h]
theorem objD_none {pl lg : Int} {ov : Bool} (h : takeName ws = none) : objD p pl lg ov ws = none := by
  unfold objD
  rw [h]
  split <;> rfl
theorem objD_2 {pl lg : Int} {ov : Bool} {x : Wd} (h : takeName ws = some (x, l)) (h2 : takeAll takeVal l.length l = none) : objD p pl lg ov ws = none := by
  unfold objD
  rw [h]
  simp only
  rw [h2]
  split <;> rfl
theorem objD_3 {pl lg : Int} {ov : Bool} {x : Wd} {vs : List Arg} (h : takeName ws = some (x, l)) (h2 : takeAll takeVal l.length l = some vs) (h3 : 8 < vs.length) : objD p pl lg ov ws = none := by
  unfold objD
  rw [h]
  simp only
  rw [h2]
  simp only
  rw [if_pos h3]
  split <;> rfl
theorem objD_4 {pl lg : Int} {ov : Bool} {x : Wd} {vs : List Arg} (h0 : stB pl 384 = true) (h : takeName ws = some (x, l)) (h2 : takeAll takeVal l.length l = some vs) (h3 : ¬ 8 < vs.length) : objD p pl lg ov ws = some (objP p ⟨x, vs⟩, 256, lg, ov || decide ((99 : Int) < (((theI p).objs.length + 1 : Nat) : Int)), []) := by
  unfold objD
  rw [if_neg (by rw [h0]; simp), h]
  simp only
  rw [h2]
  simp only
  rw [if_neg h3]
theorem takeVal_less {y : Arg} (h : takeVal ws = some (y, l)) : l.length + 1 = ws.length := by
  cases ws with
  | nil => cases h
  | cons x m =>
    simp only [takeVal] at h
    split at h
    · simp at h; simp [h.2]
    · cases h
theorem takeName_less {y : Wd} (h : takeName ws = some (y, l)) : l.length + 1 = ws.length := by
  cases ws with
  | nil => cases h
  | cons x m =>
    simp only [takeName] at h
    split at h
    · simp at h; simp [h.2]
    · cases h
/-- The loop that takes all that is left. -/
structure All {β : Type} (take : List Wd → Option (β × List Wd)) (l ls : List Wd) (vs : List β) : Prop where
  eq : ∃ n, ls.length ≤ n ∧ takeAll take l.length l = (takeAll take n ls).map (vs ++ ·)
  len : vs.length + ls.length ≤ l.length
theorem All.start {β : Type} (take : List Wd → Option (β × List Wd)) (l : List Wd) : All take l l [] := ⟨⟨l.length, Nat.le_refl _, by simp⟩, by simp⟩
theorem All.bad {β : Type} {take : List Wd → Option (β × List Wd)} {l ls : List Wd} {vs : List β} (h : All take l ls vs) (hne : ls ≠ []) (h2 : take ls = none) : takeAll take l.length l = none := by
  obtain ⟨n, hn, e⟩ := h.eq
  rw [e]
  cases ls with
  | nil => exact absurd rfl hne
  | cons x m =>
    cases n with
    | zero => rfl
    | succ n => simp only [takeAll]; rw [h2]; rfl
theorem All.step {β : Type} {take : List Wd → Option (β × List Wd)} {l ls l2 : List Wd} {vs : List β} {y : β} (h : All take l ls vs) (h2 : take ls = some (y, l2)) (h3 : l2.length < ls.length) : All take l l2 (vs ++ [y]) := by
  obtain ⟨n, hn, e⟩ := h.eq
  have hl := h.len
  cases ls with
  | nil => simp at h3
  | cons x m =>
    cases n with
    | zero => simp at hn
    | succ n =>
      refine ⟨⟨n, by simp at hn h3 ⊢; omega, ?_⟩, by simp only [List.length_append, List.length_singleton]; omega⟩
      rw [e]
      simp only [takeAll]
      rw [h2]
      simp only [Option.map_map]
      congr 1
      funext z
      simp
theorem All.done {β : Type} {take : List Wd → Option (β × List Wd)} {l : List Wd} {vs : List β} (h : All take l [] vs) : takeAll take l.length l = some vs := by
  obtain ⟨n, _, e⟩ := h.eq
  rw [e]
  cases n <;> simp [takeAll]

theorem last_rows (h : St w base rb lo hi rc a D p N ws) (hne : p.funcs ≠ []) (hnb : lastB p ≠ []) (hnc : (theB p).code ≠ []) : RowIs 167 4 (IsFrame D) a.M (theI p).frames ∧ RowIs 169 2 (IsVirt D) a.O (theI p).objs ∧ a.K.n = (theB p).code.length := by
  obtain ⟨_, _, _, _, _, _, _, _, _, _, _, c2, hq, _⟩ := block_path h hne hnb
  obtain ⟨_, _, _, hk, _⟩ := hq
  obtain ⟨init, x, c, e, _, hqb, _⟩ := hk.at hnc
  obtain ⟨u, _, _, h1, h2⟩ := hqb
  have hl : theI p = x := by unfold theI; exact last_of e
  exact ⟨by rw [hl]; exact h1, by rw [hl]; exact h2, hk.2.2.1⟩
set_option maxRecDepth 100000 in
set_option maxHeartbeats 8000000 in
theorem object_any (h : St w base rb lo hi rc a D p N ws) (hN : N < 1073741824) (hws : ws.length ≤ 4194304) (hF : stB rc.place 384 = true → p.funcs ≠ [] ∧ lastB p ≠ [] ∧ (theB p).code ≠ []) :
    Calls Tryz.prog 84 #[ptr rb] w (Meth base rb lo hi (N + 1) rc.first w (objD p rc.place rc.long rc.over ws)) := by
  by_cases hs : stB rc.place 384 = true
  · obtain ⟨hne, hnb, hnc⟩ := hF hs
    have HSB := Lib.hid hs
    have HS := Lib.hid (stands_yes h.own hs)
    have Q := Lib.hid (name_take h.own h.wds h.low)
    have HH := Lib.hid h
    have HNE := Lib.hid hne
    have HNB := Lib.hid hnb
    have HNC := Lib.hid hnc
    have HWS := Lib.hid hws
    obtain ⟨i0, hi, hz0, hz1, hz2⟩ := info_parts arg_info
    have Hi := Lib.hid hi
    have Hz0 := Lib.hid hz0
    have Hz1 := Lib.hid hz1
    have Hz2 := Lib.hid hz2
    clear h hs hF hne hnb hnc hws hi hz0 hz1 hz2
    go_enter Tryz.func84, Tryz.ntmps84
    go_wp2_with (first
      | (go_at_call 43; (with_reducible refine (HS.out).mono ?_); rintro e w0 ⟨rfl, rfl⟩)
      | (go_at_call 122; (with_reducible refine (Q.out).mono ?_); intro e w1 hT; rcases take_cases hT with ⟨hn, rfl, hg⟩ | ⟨x, l, v1, hn, rfl, ho, hw, hg⟩; exact ⟨rfl, st_bad HH hg (objD_none hn)⟩; have hS := HH.out.took ho hw hg; have HL1 := Lib.hid (loc_start (t := 169) (size := 2) (t2 := 42) (s2 := 3) (cs := [str x, .slice none 0 0]) hS rfl); have HN := Lib.hid hn; have HB := Lib.hid ((Beside.of_grown hg HH.out.high).grow (World.grownBy_alloc w1 (.cells #[str x, .slice none 0 0] 169) none) HH.out.high (by simp)); have HLL : Hid (l.length ≤ 4194304) := Lib.hid (by have := HWS.out; have := takeName_less hn; omega); clear hS hT hn ho hw hg))
    go_loopw [14] (fun _ wr => ∃ (vr : Value) (T : Rec) (ls : List Wd) (vs : List Arg), Hid (Loc wr base rb lo hi { rc with rest := vr } a D p N ls (lrec 169 2 w1.heap.size [str x, T.v]) T) ∧ Hid (RowIs 42 3 (fun c x => c = argC x) T vs) ∧ Hid (All takeVal l ls vs) ∧ Hid (Beside base rb w wr)) (fun _ wr => restLen rb wr)
    case atStart => exact ⟨v1, _, l, [], HL1, Lib.hid (RowIs.none _ _ _), Lib.hid (All.start _ _), HB⟩
    case round =>
      obtain ⟨vr, ⟨Tt, Ts, Tv, Tn, Tcs⟩, ls, vs, HL, HR, HA, HBs⟩ := hrel
      obtain ⟨TA, tc, hTv⟩ := row_val HL.out.onT HR.out.2.2.1
      simp only at hTv
      subst hTv
      have b1 := (HL.out.cell (j := 1) rfl)
      obtain ⟨c1, z1, l1⟩ := b1
      obtain ⟨rA, rcap, _, f8⟩ := rest_form HL.out.st
      have hTn : Tn ≤ 4194304 := by have := HR.out.2.2.1; have := HA.out.len; have := HLL.out; simp only at *; omega
      have hTn2 : vs.length ≤ 4194304 := by have := HA.out.len; have := HLL.out; omega
      cases ls with
      | cons y0 ls =>
        have QV := Lib.hid (value_take HL.out.drew.st.own HL.out.drew.st.wds HL.out.st.low)
        have hlp : 0 < ls.length + 1 := by omega
        rw [List.length_cons] at f8
        go_wp2
        go_region_law (first
          | (go_simp; go_at_call 132; (with_reducible refine (QV.out).mono ?_); intro e w2 hT; rcases take_cases hT with ⟨hn, rfl, hg⟩ | ⟨⟨ak, as_, an⟩, l2, v2, hn, rfl, ho, hw, hg⟩; exact ⟨rfl, Meth.bad (HBs.out.trans (Beside.of_grown (gr_undrew hg) HL.out.st.high)) (objD_2 HN.out (HA.out.bad (List.cons_ne_nil _ _) hn))⟩; have HL2 := Lib.hid (HL.out.drew.took ho hw hg); obtain ⟨c1b, z1b, l1b⟩ := HL2.out.cell (j := 1) rfl; have c1d := al_cell (x := .cells #[i64 ak, str as_, i64 an] 42) c1b; have HA2 := Lib.hid (HA.out.step hn (by have := takeVal_less hn; omega)); have HB2 := Lib.hid (HBs.out.trans (Beside.of_grown (gr_undrew hg) HL.out.st.high)); have HW2 := Lib.hid (takeVal_less hn); clear hT hn ho hw hg)
          | (refine step_grow (w0 := w2) rfl _ _ 48 (by rfl) base 42 i0 (.agg #[.int .i64 0, .string ⟨#[]⟩, .int .i64 0]) 3 32 Tryz.underlying48 Hi.out Hz0.out Hz1.out Hz2.out rfl (by decide) (by decide) _ HR.out.1 HR.out.2.1 (by rfl) HL2.out.onT [i64 ak, str as_, i64 an] _ rfl (by rfl) rfl (ones_arg _ _ _) (by simp only; omega) HL2.out.st.high ?_; intro g cap w3 hG; have HG := Lib.hid hG; obtain ⟨c1c, z1c, l1c⟩ := HL2.out.cell_grew hG (j := 1) rfl; clear hG))
        all_goals
          go_wp2
          go_roundw
          case rel => exact ⟨v2, grew ⟨Tt, Ts, .slice TA vs.length tc, Tn, Tcs⟩ (.slice (some ⟨g, 0, none⟩) (Tn + 1) cap) [i64 ak, str as_, i64 an], l2, vs ++ [⟨ak, as_, an⟩], (HL2.out.grow HG.out).put 1 (.slice (some ⟨g, 0, none⟩) (Tn + 1) cap), Lib.hid (HR.out.push (by have := hTn2; omega) rfl rfl _), HA2, Lib.hid ((HB2.out.trans (loc_beside HL2.out HG.out)).set (p := ⟨w1.heap.size, 1, none⟩) (.inl (by have := (HL.out.onL.lt (k := w1.heap.size) rfl).1; exact this)) _)⟩
          case measure =>
            have e1 := restLen_of HL.out.st
            have e2 := restLen_of ((HL2.out.grow HG.out).put 1 (.slice (some ⟨g, 0, none⟩) (Tn + 1) cap)).st
            have e3 := HW2.out
            simp only [List.length_cons] at e1 e3
            rw [e1, e2]
            omega
      | nil =>
        rw [List.length_nil] at f8
        by_cases h8 : 8 < vs.length
        · have e8 : decide ((8 : Int) < (vs.length : Int)) = true := decide_eq_true (by omega)
          have H8 := Lib.hid h8
          clear h8
          go_wp2_with (go_at_call 90; (with_reducible refine (refuse_any _ _).mono ?_); rintro e w3 ⟨rfl, rfl⟩)
          exact ⟨rfl, Meth.bad HBs.out (objD_3 HN.out HA.out.done H8.out)⟩
        · have e8 : decide ((8 : Int) < (vs.length : Int)) = false := decide_eq_false (by omega)
          have H8 := Lib.hid h8
          obtain ⟨m, g1, cap1, hlen, hav, hgb, hgl, hm, fR, fV, fB, hz, hqf⟩ := func_path HL.out.st HNE.out
          obtain ⟨m2, g2, cap2, hlen2, hav2, hgb2, hgl2, hm2, fH, fK, hz2, c2, hqb, hc2⟩ := block_path HL.out.st HNE.out HNB.out
          obtain ⟨m3, g3, cap3, hlen3, hav3, hgb3, hgl3, hm3, fM, fO, hz3⟩ := instr_path HL.out.st HNE.out HNB.out HNC.out
          obtain ⟨_, hrO, hkn⟩ := last_rows HL.out.st HNE.out HNB.out HNC.out
          have f4 := HL.out.st.cells.2.2.2.2.1
          rw [hav] at f4
          rw [hav2] at fB
          rw [hav3] at fK
          have QI := Lib.hid (lastInstr_any f4 hm fB hm2 fK hm3)
          have HRO := Lib.hid hrO
          have hcn : a.O.n ≤ N := HL.out.st.bld.few _ (by simp [Act.l])
          have HCO := Lib.hid fO
          have HZ3 := Lib.hid (hz3 (m3 * 6 + 5))
          have HAV3 := Lib.hid hav3
          have HL3 := Lib.hid hlen3
          have HKN := Lib.hid hkn
          have HGB3 := Lib.hid hgb3
          have HGL3 := Lib.hid hgl3
          have hr3 : g3 ≠ rb := by have := HL.out.st.mid; omega
          have HR3 := Lib.hid hr3
          obtain ⟨j0, jz, hj0, hj1, hj2⟩ := info_parts virt_info
          have Hj := Lib.hid jz
          have Hj0 := Lib.hid hj0
          have Hj1 := Lib.hid hj1
          have Hj2 := Lib.hid hj2
          obtain ⟨c0, y0, _⟩ := HL.out.cell (j := 0) rfl
          have HC0 := Lib.hid c0
          have HC1 := Lib.hid c1
          clear h8 hlen hav hgb hgl hm fR fV fB hz hqf hlen2 hav2 hgb2 hgl2 hm2 fH fK hz2 hqb hc2 hlen3 hav3 hgb3 hgl3 hm3 fM fO hz3 hrO hkn f4 hr3 jz hj0 hj1 hj2
          go_wp2_with (go_at_call 133; (with_reducible refine (QI.out).mono ?_); rintro e w5 ⟨rfl, hs5⟩; have HS5 := Lib.hid hs5; have o5 := hs5.cell HCO.out; have k0 := hs5.cell HC0.out; have k1 := hs5.cell HC1.out; have o5d := al_cell (x := .cells #[str x, .slice TA vs.length tc] 169) o5; have HLd := Lib.hid (HL.out.sameH hs5).drew; clear hs5)
          go_region_law (refine step_grow_d (w0 := w5) rfl _ _ 50 (by rfl) base 169 j0 (.agg #[.string ⟨#[]⟩, .slice none 0 0]) 2 40 Tryz.underlying50 Hj.out Hj0.out Hj1.out Hj2.out rfl (by decide) (by decide) a.O HRO.out.1 HRO.out.2.1 (by rfl) (HLd.out.st.on (by simp [Act.l])) [str x, .slice TA vs.length tc] _ rfl (by rfl) rfl (ones_virt _ _ _ _) (by omega) HLd.out.st.high ?_; intro g cap w6 hG; have HGR := Lib.hid hG; have ho2 := own_grown HLd.out.st hG (by simp [Act.l]); obtain ⟨f1c, z1c, l1c⟩ := grew_cell hG (show g3 < w5.drew.heap.size from by have := HGL3.out; have := HS5.out.1; show g3 < w5.heap.size; rw [this]; assumption) (ap_ne (A := [a.C, a.F, a.G, a.E, a.U, a.R, a.V, a.B, a.H, a.K, a.M]) (B := D) (x := a.K) HLd.out.st.bld.ap (by simp) (by rw [HAV3.out]; rfl)) (HS5.out.drew.cell HCO.out) (HS5.out.drew.thaw HZ3.out); have HO2 : Hid (OwnR (w6.setCell ⟨g3, m3 * 6 + 5, none⟩ (.slice (some ⟨g, 0, none⟩) (a.O.n + 1) cap)) rb { rc with rest := vr }) := Lib.hid (own_set ho2 HR3.out _); clear hG ho2)
          all_goals
            go_wp2_with (go_at_call 123; (with_reducible refine (limit_any _ _ HO2.out).mono ?_); rintro e w7 ⟨rfl, ho3, hg3, _⟩; have HO3 := Lib.hid ho3; have HG3 := Lib.hid hg3; obtain ⟨f5, z5, l5⟩ := own_at5 ho3; clear ho3 hg3)
            go_end0
            have hap := ap_same (loc_sub1 HLd.out.ap) (w' := w5.drew.alloc (.cells #[str x, .slice TA vs.length tc] 169)) fun k _ hk => heap_alloc_old w5.drew _ hk
            have hB := Build.obj (g0 := g3) (cap := cap3) (x := ⟨x, vs⟩) (al_build HLd.out.st.bld (.cells #[str x, .slice TA vs.length tc] 169)) HNE.out HNB.out HNC.out hap (fun _ h => List.mem_cons_of_mem _ h) ⟨_, rfl, .of List.mem_cons_self HR.out⟩ rfl HGR.out (by rw [HAV3.out, HKN.out, HL3.out]) hN
            rw [HL3.out, Nat.add_sub_cancel] at hB
            obtain ⟨b1, b2, b3⟩ := inner_end2 HLd.out.st (HBs.out.trans HS5.out.drew.beside) (by simp [Act.l]) HGR.out hB HGB3.out HG3.out
            exact Meth.ok (p2 := objP p ⟨x, vs⟩) (b1.set (p := ⟨rb, 5, none⟩) (.inr rfl) _) (objD_4 HSB.out HN.out HA.out.done H8.out) (HLd.out.st.finish (b2.set (p := ⟨rb, 5, none⟩) (.inr rfl) _) (rcf := { rc with rest := vr, over := rc.over || decide ((99 : Int) < ((a.O.n + 1 : Nat) : Int)), place := 256 }) (HO3.out.store 5 _) (rb_set b3 HH.out.mid 5 _) HLd.out.st.ssa HLd.out.st.c HLd.out.st.g HLd.out.st.e HLd.out.st.u rfl) rfl rfl (by rw [HRO.out.2.2.1]) rfl
  · have hs : stB rc.place 384 = false := by simpa using hs
    rw [objD_no hs]
    have Q := Lib.hid (stands_no h.own hs)
    clear h hs hF
    go_enter Tryz.func84, Tryz.ntmps84
    go_wp2_with (go_at_call 43; (with_reducible refine (Q.out).mono ?_); rintro e w1 ⟨rfl, rfl⟩)
    exact ⟨rfl, Beside.refl _ _ _, rfl⟩
end Go.Proofs.YtkmndgjabkjafaaGreatDoor.Rd5
