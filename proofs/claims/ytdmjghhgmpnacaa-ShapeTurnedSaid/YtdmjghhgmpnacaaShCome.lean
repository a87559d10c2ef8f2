/-
  Layer 8: the program's search for what can be come to.
-/
import Derived.Test.YtdmjghhgmpnacaaShEnds
import Derived.Test.YtdmjghhgmpnacaaShDfs
namespace Go.Proofs.Ytdmjghhgmpnacaa.Sh8
open Go.RowKit Api Mem Go.Maps

/-- 'append(s, x)' of one thing onto a row of the call's own. -/
theorem push_own {P : Program} {w : World} {ops : Array Oper} {rest : List Oper} {o : Oper} {a : Go.Act} {Q : Exit → Go.Act → World → Prop} (hgd : o.guard = none) (s x : Operand) (t : TypeId)
    (ho : o.op = .call { callee := .builtin .append, args := #[s, x], argTypes := #[t, t] })
    (base : Nat) (e : TypeId) (z : Value) (size bytes : Nat) (ht : P.underlying t = some (.slice e)) (hinf : (P.info? e).map (fun i => (i.zero, i.size, i.bytes)) = some (some z, size, bytes)) (hzs : z.cells.size = size) (hsz : 0 < size)
    (v : Value) (n : Nat) (xs : List Value) (hs : a.eval s = v) (hown : w.ownsRow base e size v n xs)
    (news : List Value) (k : Nat) (hk : k = w.heap.size) (hx : a.eval x = .slice (some ⟨k, 0, none⟩) 1 1) (hl : news.length = size) (h1 : ∀ u ∈ news, u.oneCell' = true)
    (h63 : n + 1 ≤ maxLen) (hbytes : (n + 1) * bytes ≤ 140737488355328) (hbase : base ≤ w.heap.size)
    (h : ∀ v' w', w'.ownsRow base e size v' (n + 1) (xs ++ news) → w.grownBy w' v.ownBlock → wpList P ops Q rest (a.put o.dst v') w') :
    wpList P ops Q (o :: rest) a (w.alloc (.cells news.toArray e)) := by
  subst hk
  obtain ⟨i, hi, hz0, hz1, hz2⟩ := info_parts hinf
  refine wpList_append_own (w := w.alloc (.cells news.toArray e)) hgd s x t ho base e i z size bytes ht hi hz0 hz1 hz2 hzs hsz v n xs hs (hown.alloc _) ⟨w.heap.size, 0, none⟩ 1 1 news hx (by omega) ?_ h1 h63 hbytes (by simp; omega) ?_
  · intro j u hu
    have e1 : (⟨w.heap.size, 0, none⟩ : Addr).add j = ⟨w.heap.size, j, none⟩ := by unfold Addr.add; split <;> simp_all
    rw [e1, (Own.made w e news).cell]
    exact hu
  · intro v' w' h2 h3 _
    exact h v' w' h2 ((World.grownBy_alloc w _ _).trans h3)
/-- a row of the call's own without its last element. -/
theorem pop_own {w : World} {base : Nat} {e : TypeId} {v : Value} {s : Nat} {xs : List Value} {u : Value} (h : w.ownsRow base e 1 v (s + 1) (xs ++ [u])) : ∃ g cap, v = .slice (some ⟨g, 0, none⟩) (s + 1) cap ∧ base ≤ g ∧ g < w.heap.size ∧ s + 1 ≤ cap ∧ w.cell? ⟨g, s, none⟩ = some u ∧ w.ownsRow base e 1 (.slice (some ⟨g, 0, none⟩) s cap) s xs := by
  have hl := h.1
  simp at hl
  rcases h.2 with ⟨_, h0⟩ | ⟨g, cap, cur, rfl, hb, hg, hnc, hcm, hcs, ht⟩
  · omega
  · refine ⟨g, cap, rfl, hb, (Array.getElem?_eq_some_iff.1 hg).1, hnc, ?_, ⟨by omega, .inr ⟨g, cap, cur, rfl, hb, hg, by omega, hcm, hcs, ?_⟩⟩⟩
    · rw [h.cellAt s (by omega), List.getElem?_append_right (by omega)]
      simp [hl]
    · have h2 := congrArg (List.take (s * 1)) ht
      rw [List.take_take] at h2
      have e1 : min (s * 1) ((s + 1) * 1) = s * 1 := by omega
      rw [e1] at h2
      rw [h2, List.take_left' (by omega)]
theorem own_grown {w w' : World} {g : Nat} {t : TypeId} {cs : List Value} {row : Option Nat} (h : Own w g t cs) (hg : w.grownBy w' row) (hne : row ≠ some g) : Own w' g t cs := (hg.block g h.lt (fun e => hne e.symm)).trans h
def slLen : Value → Nat
  | .slice _ n _ => n
  | _ => 0
theorem slLen_own {w : World} {base : Nat} {e : TypeId} {v : Value} {n : Nat} {xs : List Value} {size : Nat} (h : w.ownsRow base e size v n xs) : slLen v = n := by
  rcases h.2 with ⟨rfl, rfl⟩ | ⟨g, cap, cur, rfl, _⟩ <;> rfl
theorem row_set {w : World} {base : Nat} {e : TypeId} {size : Nat} {v : Value} {n : Nat} {xs : List Value} (h : w.ownsRow base e size v n xs) {g i : Nat} (hg : g < base) (u : Value) : (w.setCell ⟨g, i, none⟩ u).ownsRow base e size v n xs := by
  refine ⟨h.1, ?_⟩
  rcases h.2 with hn | ⟨k, cap, cur, rfl, hb, hk, r⟩
  · exact .inl hn
  · exact .inr ⟨k, cap, cur, rfl, hb, (RowKit.Below.heap_setCell _ _ _ _ (show k ≠ g by omega)).trans hk, r⟩
theorem row_form {w : World} {base : Nat} {e : TypeId} {size : Nat} {v : Value} {n : Nat} {xs : List Value} (h : w.ownsRow base e size v n xs) : ∃ A cap, v = .slice A n cap := by
  rcases h.2 with ⟨rfl, rfl⟩ | ⟨g, cap, cur, rfl, _⟩
  · exact ⟨_, _, rfl⟩
  · exact ⟨_, _, rfl⟩
theorem own_far {w : World} {base : Nat} {e : TypeId} {size : Nat} {v : Value} {n : Nat} {xs : List Value} (h : w.ownsRow base e size v n xs) {g : Nat} (hg : g < base) : v.ownBlock ≠ some g := fun e => by
  have := (h.lt g e).1
  omega
abbrev C0 (n : Nat) : List Bool := (List.replicate n false).set 0 true
theorem start8 (W : World) (n b : Nat) (hb : W.heap.size = b) (W5 : World) (h5 : (W.alloc (.cells ((C0 n).map .bool).toArray 4)).alloc (.cells #[i64 0] 3) = W5) :
    Own W5 b 4 ((C0 n).map .bool) ∧ W5.ownsRow (b + 1) 3 1 (.slice (some ⟨b + 1, 0, none⟩) 1 1) 1 [i64 0] ∧ Below b W W5 := by
  subst hb
  subst h5
  refine ⟨(Own.made W _ _).alloc _, ?_, ((Below.refl _ _).alloc (Nat.le_refl _) _).alloc (by simp) _⟩
  have := World.ownsRow_lit (base := W.heap.size + 1) (e := 3) (size := 1) (W.alloc (.cells ((C0 n).map .bool).toArray 4)) #[i64 0] 1 (by simp) (by unfold maxLen; omega) rfl
  simpa using this
set_option maxRecDepth 100000 in
set_option maxHeartbeats 8000000 in
theorem come_any (lo hi : Nat) (w : World) (cs : List Value) (f : Api.Func) (hf : FuncC lo hi w cs f) (hh : hi ≤ w.heap.size) (g m : Nat) (hM : w.ownsMap Try.prog 9 (plainElem Try.prog 3) g m (tab 0 (names f.blocks))) (hn : f.blocks.length ≤ 1099511627776) (hG : toG f.blocks)
    (h0 : 0 < f.blocks.length) (hnd : (names f.blocks).Nodup) (hE : ∀ c ∈ f.blocks, EndOk (names f.blocks) c.fin.dest) :
    Calls Try.prog 20 #[.agg cs.toArray, .map (some g)] w (BP (∀ c ∈ f.blocks, Reach f.blocks c.name) w) := by
  have hgl := hM.lt
  obtain ⟨u1, u2, u3, rfl, kp, kv, kb⟩ := hf
  obtain ⟨nm, rs, ps, vs, bl⟩ := f
  simp only at kp kv kb hG hM hn h0 hnd hE ⊢
  obtain ⟨A1, k1, rfl⟩ := kp.form
  obtain ⟨A2, k2, rfl⟩ := kv.form
  obtain ⟨A3, k3, rfl⟩ := kb.form
  obtain ⟨W, hW⟩ : ∃ W, w.alloc (.cells #[str nm, str rs, .slice A1 ps.length k1, .slice A2 vs.length k2, .slice A3 bl.length k3] 25) = W := ⟨_, rfl⟩
  obtain ⟨o1, b1, z1⟩ := box8 (c := [str nm, str rs, .slice A1 ps.length k1, .slice A2 vs.length k2, .slice A3 bl.length k3]) hW
  have hlb : bl.length ≤ 4611686018427387903 := by obtain ⟨_, _, _, h, _⟩ := kb.get; exact h
  have KB := Lib.hid (Blocks.move (Still.of_below (b1.mono hh)) kb)
  have HO := Lib.hid o1
  have HB := Lib.hid b1
  have HW := Lib.hid hW
  have HHW : Hid (hi ≤ W.heap.size) := Lib.hid (by omega)
  have GB := Lib.hid hG
  have zlt := o1.lt
  clear o1 b1 hW kp kv kb hG
  have HM := Lib.hid (owns_below hM HB.out hgl)
  have hmm := fun (w : World) => run_row (P := Try.prog) (t := 31) Try.underlying31 info_bool rfl (by decide) bl.length hn w
  have HN := Lib.hid hn
  have HGL := Lib.hid hgl
  have HND := Lib.hid hnd
  have HEND := Lib.hid hE
  have o2 := Own.made W 4 (List.replicate bl.length (.bool false))
  have e2 := o2.cell 0
  have c2 : (W.alloc (.cells (List.replicate bl.length (.bool false)).toArray 4)).cell? ⟨w.heap.size + 1, 0, none⟩ = some (.bool false) := by rw [← z1, e2]; simp [h0]
  have t2 : (W.alloc (.cells (List.replicate bl.length (.bool false)).toArray 4)).frozen? ⟨w.heap.size + 1, 0, none⟩ = false := by rw [← z1]; exact o2.thaw 0
  have HO2 := Lib.hid o2
  clear hn hM hgl hnd hE o2 e2
  go_enter Try.func20, Try.ntmps20
  go_wp2_with fail
  rw [HW.out]
  have f4' := HO.out.cell 4
  simp only [List.getElem?_cons_succ, List.getElem?_cons_zero] at f4'
  go_wp2_with fail
  rw [show (Array.replicate bl.length (Value.bool false)).setIfInBounds 0 (.bool true) = ((C0 bl.length).map .bool).toArray by apply Array.ext'; simp]
  obtain ⟨W5, hW5⟩ : ∃ W5, (W.alloc (.cells ((C0 bl.length).map .bool).toArray 4)).alloc (.cells #[i64 0] 3) = W5 := ⟨_, rfl⟩
  rw [hW5]
  obtain ⟨s1, s2, s3⟩ := start8 W bl.length _ z1 W5 hW5
  have HS1 := Lib.hid s1
  have HS2 := Lib.hid s2
  have HS3 := Lib.hid (show Below W.heap.size W W5 by rw [z1]; exact s3)
  clear s1 s2 s3 hW5 c2 t2 HO2
  go_loopw [6, 7] (fun l v wr => ∃ (C : List Bool) (S : List Nat), l = .int .i64 ((bl.length : Int) - (cntT C : Int)) ∧ Hid (wr.ownsRow (w.heap.size + 1 + 1) 3 1 v S.length (S.map fun (p : Nat) => i64 (p : Int))) ∧ Hid (Own wr (w.heap.size + 1) 4 (C.map .bool)) ∧ Hid (Dfs bl C S none) ∧ Hid (Below W.heap.size W wr)) (fun l v _ => (intOf l).toNat + slLen v)
  case atStart =>
    have hz : (List.replicate bl.length false)[0]? = some false := by simp [h0]
    exact ⟨C0 bl.length, [0], by rw [show C0 bl.length = (List.replicate bl.length false).set 0 true from rfl, cnt_set hz, cnt_false]; rfl, HS2, HS1, Lib.hid (dfs_start h0), HS3⟩
  case round =>
  obtain ⟨C, S, rfl, HSt, HC, HD, HBr⟩ := hrel
  clear f4'
  have f4 := (HO.out.below HBr.out HO.out.lt).cell 4
  simp only [List.getElem?_cons_succ, List.getElem?_cons_zero] at f4
  rcases List.eq_nil_or_concat S with rfl | ⟨S', a, rfl⟩
  · obtain ⟨A9, c9, rfl⟩ := row_form HSt.out
    have HF := Lib.hid (HD.out.fin HND.out)
    have HCL := Lib.hid (cnt_le C)
    go_wp2
    go_ret
    refine ⟨_, rfl, ?_, HB.out.trans (HBr.out.mono HB.out.size)⟩
    rw [← HF.out]
    simp
    omega
  · rw [List.concat_eq_append] at HSt HD
    have hst := HSt.out
    rw [List.length_append, List.map_append] at hst
    obtain ⟨gs, c9, rfl, hgs, hgl9, hcap9, n9, hst2⟩ := pop_own hst
    have HST := Lib.hid hst2
    have HDP := Lib.hid HD.out.pop
    have hsb : S'.length ≤ 1099511627776 := by
      have h1 := HD.out.cnt
      have h2 := cnt_le C
      have h3 := HD.out.len
      have h4 := HN.out
      simp at h1
      omega
    have hap : a < bl.length := by rw [← HD.out.len]; exact (List.getElem?_eq_some_iff.1 (HD.out.stk a (by simp))).1
    clear hst hst2
    obtain ⟨⟨bn, phs, cod, ⟨tk, ⟨ak, as_, an⟩, td, tn⟩⟩, hx⟩ : ∃ y, bl[a]? = some y := ⟨_, List.getElem?_eq_getElem hap⟩
    obtain ⟨b3, of3, hn3, hm3, a3, j3⟩ := KB.out.get
    obtain ⟨rfl, _, hb3⟩ := a3 (by omega)
    obtain ⟨cs3, _, q3, hu⟩ := j3 a _ hx
    obtain ⟨x1, x2, x3, e1', kph, kco, x4, e2', kto⟩ := hu
    subst e2'
    subst e1'
    obtain ⟨m0, m1, m2, m3, m4, m5, m6, m7, m8⟩ := at9 (cells_later q3 HBr.out (by have := HHW.out; omega))
    obtain ⟨At, kt, rfl⟩ := Row.form kto
    have htl : td.length ≤ 4611686018427387903 := by obtain ⟨_, _, _, h, _⟩ := kto.get; exact h
    have HX := Lib.hid hx
    have KT := Lib.hid kto
    clear q3 j3 a3 hx kph kco kto
    go_wp2_with fail
    go_loopw [6, 7, 45] (fun l v i wr2 => ∃ (j : Nat) (C2 : List Bool) (S2 : List Nat), j ≤ td.length ∧ l = .int .i64 ((bl.length : Int) - (cntT C2 : Int)) ∧ i = .int .i64 j ∧ Hid (wr2.ownsRow (w.heap.size + 1 + 1) 3 1 v S2.length (S2.map fun (p : Nat) => i64 (p : Int))) ∧ Hid (Own wr2 (w.heap.size + 1) 4 (C2.map .bool)) ∧ Hid (Dfs bl C2 S2 (some (a, td.take j))) ∧ Hid (cntT C + S2.length = cntT C2 + S'.length) ∧ Hid (Below W.heap.size W wr2)) (fun _ _ i _ => td.length - (intOf i).toNat)
    case atStart => exact ⟨0, C, S', Nat.zero_le _, rfl, rfl, HST, HC, by simpa using HDP, Lib.hid (by omega), HBr⟩
    case round =>
    obtain ⟨j, C2, S2, hj, rfl, rfl, HSt2, HC2, HD2, HCN2, HBr2⟩ := hrel
    clear m0 m1 m2 m3 m4 m5 m6 m7 m8 f4 n9
    by_cases hlt2 : j < td.length
    · obtain ⟨x, hxj⟩ : ∃ y, td[j]? = some y := ⟨_, List.getElem?_eq_getElem hlt2⟩
      have kt2 := KT.out
      obtain ⟨b5, of5, hn5, hm5, a5, j5⟩ := Row.get kt2
      obtain ⟨rfl, _, hb5⟩ := a5 (by omega)
      obtain ⟨cs5, _, q5, hu5⟩ := j5 j _ hxj
      subst hu5
      have n0 := cells_later q5 HBr2.out (by have := HHW.out; omega) 0 _ rfl
      simp only [Nat.mul_one, Nat.add_zero] at n0
      clear q5 j5 a5 kt2
      have HKEY := Lib.hid (key_at (GB.out _ (List.mem_of_getElem? HX.out) _ (List.mem_of_getElem? hxj)))
      have HMW := Lib.hid (owns_below HM.out HBr2.out (by have := HGL.out; omega))
      have HXJ := Lib.hid hxj
      clear hxj
      obtain ⟨p, hp⟩ := plc_mem ((HEND.out _ (List.mem_of_getElem? HX.out)).2 x (List.mem_of_getElem? HXJ.out)).1
      have HT := Lib.hid (tab_found hp)
      have HP := Lib.hid hp
      have hpl : p < bl.length := by have := plc_lt hp; rwa [names_len] at this
      clear hp
      obtain ⟨c, hc⟩ : ∃ c, C2[p]? = some c := ⟨_, List.getElem?_eq_getElem (by rw [HD2.out.len]; exact hpl)⟩
      have HCP := Lib.hid hc
      have c0 := (HC2.out.cell p).trans (show (C2.map Value.bool)[p]? = some (Value.bool c) by rw [List.getElem?_map, hc]; rfl)
      have t0 := HC2.out.thaw p
      have ylt := HC2.out.lt
      have HTK : Hid (td.take (j + 1) = td.take j ++ [x]) := Lib.hid (by
        obtain ⟨hj9, e9⟩ := List.getElem?_eq_some_iff.1 HXJ.out
        rw [List.take_succ_eq_append_getElem hj9, e9])
      clear hc
      cases c with
      | true =>
        have HD3 := Lib.hid (HD2.out.skip HP.out HCP.out)
        go_wp2_with (first | (at_lookup; refine look_one _ rfl _ _ 52 rfl 9 3 lawS Try.underlying52 Try.underlying3 (zeroI _) g m _ rfl HMW.out _ _ rfl HKEY.out _ HT.out.1 ?_) | go_in)
        go_roundw
        case rel => exact ⟨j + 1, C2, S2, by omega, rfl, by go_num, HSt2, HC2, Lib.hid (by rw [HTK.out]; exact HD3.out), HCN2, HBr2⟩
        case measure => simp [intOf]; omega
      | false =>
        have HD3 := Lib.hid (HD2.out.push HX.out (List.mem_of_getElem? HXJ.out) HP.out HCP.out)
        have HC3 := Lib.hid (HC2.out.store p (.bool true))
        have HSt3 := Lib.hid (row_set HSt2.out (g := w.heap.size + 1) (i := p) (by omega) (.bool true))
        have HCN3 := Lib.hid (cnt_set HCP.out)
        have hcb : cntT C2 ≤ 1099511627776 := by
          have h2 := cnt_le C2
          have h3 := HD2.out.len
          have h4 := HN.out
          omega
        have hlb2 : bl.length ≤ 1099511627776 := HN.out
        have hs2 : S2.length ≤ 1099511627776 := by
          have h2 := HD2.out.cnt
          omega
        have HBR3 : Hid (Below W.heap.size W (wr.setCell ⟨w.heap.size + 1, p, none⟩ (.bool true))) := Lib.hid (HBr2.out.setCell (p := ⟨w.heap.size + 1, p, none⟩) (Nat.le_of_eq z1) _)
        go_wp2_with (first | (at_lookup; refine look_one _ rfl _ _ 52 rfl 9 3 lawS Try.underlying52 Try.underlying3 (zeroI _) g m _ rfl HMW.out _ _ rfl HKEY.out _ HT.out.1 ?_) | (at_builtin; refine push_own rfl _ _ 41 rfl (w.heap.size + 1 + 1) 3 (.int .i64 0) 1 8 Try.underlying41 info_int rfl (by decide) _ S2.length _ rfl HSt3.out [i64 (p : Int)] _ (by simp) rfl rfl (by intro u hu; rw [List.mem_singleton] at hu; subst hu; rfl) (by unfold maxLen; omega) (by omega) HC3.out.lt ?_; intro v9 w9 hown9 hg9; have HS9 := Lib.hid hown9; have HG9 := Lib.hid hg9; clear hown9 hg9) | go_in)
        go_roundw
        case rel => exact ⟨j + 1, C2.set p true, S2 ++ [p], by omega, by rw [HCN3.out]; go_num, by go_num, Lib.hid (by simpa using HS9.out), Lib.hid (by rw [List.map_set]; exact own_grown HC3.out HG9.out (own_far HSt3.out (by omega))), Lib.hid (by rw [HTK.out]; exact HD3.out), Lib.hid (by rw [HCN3.out]; have := HCN2.out; simp; omega), Lib.hid (HBR3.out.grown HG9.out HBR3.out.size (fun k hk => by have := (HSt3.out.lt k hk).1; omega))⟩
        case measure => simp [intOf]; omega
    · have HD3 := Lib.hid (Dfs.done (b := ⟨bn, phs, cod, ⟨tk, ⟨ak, as_, an⟩, td, tn⟩⟩) (by have := HD2.out; rwa [List.take_of_length_le (by omega)] at this) HX.out)
      go_wp2_with fail
      go_roundw
      case rel => exact ⟨C2, S2, rfl, HSt2, HC2, HD3, HBr2⟩
      case measure =>
        rw [slLen_own HSt2.out]
        have h1 := HCN2.out
        have h2 := cnt_le C2
        have h3 := HD2.out.len
        have h4 := cnt_le C
        have h5 := HD.out.len
        simp [intOf, slLen]
        omega
end Go.Proofs.Ytdmjghhgmpnacaa.Sh8
