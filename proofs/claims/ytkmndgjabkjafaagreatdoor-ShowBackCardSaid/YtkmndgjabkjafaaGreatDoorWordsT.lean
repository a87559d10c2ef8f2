/-
  Package show: the words of lines, walked.
  Package show: the words of objects, frames, ends, instructions, walked.
-/
import Derived.Test.YtkmndgjabkjafaaGreatDoorAlls
import Derived.Test.YtkmndgjabkjafaaGreatDoorCallsL
import Derived.Test.YtkmndgjabkjafaaGreatDoorHoldT
import Derived.Lib.Walk
namespace Go.Proofs.YtkmndgjabkjafaaGreatDoor.Sh6
open Go.RowKit Api Syn WordM Mem Rd5

theorem own_hold6 {w w' : World} {g B : Nat} {t : TypeId} {cs : List Value} (o : Own w g t cs) (hb : Below B w w') (hg : g < B) (i : Nat) {u : Value} (h : cs[i]? = some u) : w'.cell? ⟨g, i, none⟩ = some u := ((o.below hb hg).cell i).trans h
theorem s_info : (Tryz.prog.info? 9).map (fun i => (i.zero, i.size, i.bytes)) = some (some (.string ⟨#[]⟩), 1, 16) := by kernel_rfl
/-- A new row of words. -/
def WordsP (w : World) (ws : List Wd) (e : Ending) (w' : World) : Prop := ∃ v, e = .returned v ∧ w'.ownsRow w.heap.size 9 1 v ws.length (LinesM.strs ws) ∧ Below w.heap.size w w'
theorem put_as (a : Arg) (hI : argI a) (s : ByteArray) (hs : s.data.toList = putA a) (w : World) : Calls Tryz.prog 145 #[.agg #[i64 a.kind, str a.s, i64 a.n]] w fun e w' => e = .returned (.string s) ∧ Below w.heap.size w w' := by
  have := wput_any (ofA a) hI w
  have e : s = ⟨(wput (ofA a)).toArray⟩ := bytes_ext hs
  rw [← e] at this
  exact this
theorem strs_snoc (ws : List Wd) (x : Wd) : LinesM.strs (ws ++ [x]) = LinesM.strs ws ++ [str x] := by simp [LinesM.strs]
set_option maxRecDepth 100000 in
set_option maxHeartbeats 8000000 in
theorem puts_any (lo hi : Nat) (w : World) (v : Value) (l : List Arg) (h : Args lo hi w v l) (hh : hi ≤ w.heap.size) (hI : ∀ a ∈ l, argI a) (hl : l.length ≤ 1048576) :
    Calls Tryz.prog 170 #[v] w (WordsP w (l.map putA)) := by
  obtain ⟨i0, hi0, hz0, hz1, hz2⟩ := info_parts s_info
  have Hi := Lib.hid hi0
  have Hz0 := Lib.hid hz0
  have Hz1 := Lib.hid hz1
  have Hz2 := Lib.hid hz2
  clear hi0 hz0 hz1 hz2
  obtain ⟨A, n, cap, b, off, rfl, hn, hm, ha, hc⟩ := h
  have hn2 : n ≤ 1048576 := by omega
  have HC := Lib.hid hc
  have HA := Lib.hid ha
  have HN := Lib.hid hn
  have HI := Lib.hid hI
  clear hc ha hn hI hl
  go_enter Tryz.func170, Tryz.ntmps170
  go_wp2_with fail
  go_loopw [3, 8] (fun u i wr => ∃ k : Nat, k ≤ n ∧ i = .int .i64 k ∧ Hid (wr.ownsRow w.heap.size 9 1 u k (LinesM.strs ((l.take k).map putA))) ∧ Hid (Below w.heap.size w wr)) (fun _ i _ => n - (intOf i).toNat)
  case atStart => exact ⟨0, Nat.zero_le _, rfl, Lib.hid (World.ownsRow_nil _ _ _ _), Lib.hid (Below.refl _ _)⟩
  case round =>
  obtain ⟨k, hk, rfl, HO, HBr⟩ := hrel
  by_cases hlt : k < n
  · obtain ⟨⟨ak, as_, an⟩, hx⟩ : ∃ x, l[k]? = some x := ⟨_, List.getElem?_eq_getElem (by have := HN.out; omega)⟩
    obtain ⟨rfl, _, hb1⟩ := HA.out (by omega)
    obtain ⟨cs, _, q1, rfl⟩ := HC.out k _ hx
    obtain ⟨n0, n1, n2⟩ := at3 (cells_later q1 HBr.out (show b < w.heap.size by omega))
    obtain ⟨s, hs⟩ : ∃ s : ByteArray, s.data.toList = putA ⟨ak, as_, an⟩ := ⟨⟨(putA ⟨ak, as_, an⟩).toArray⟩, rfl⟩
    have Q := Lib.hid (put_as ⟨ak, as_, an⟩ (HI.out _ (List.mem_of_getElem? hx)) s hs)
    have hnx : LinesM.strs ((l.take (k + 1)).map putA) = LinesM.strs ((l.take k).map putA) ++ [.string s] := by
      rw [LinesM.take_next hx, List.map_append]
      show LinesM.strs (_ ++ [putA ⟨ak, as_, an⟩]) = _
      rw [strs_snoc, ← hs]
    have HNX := Lib.hid hnx
    clear q1 hx hs hnx
    go_wp2_with fail
    refine (Q.out _).mono ?_; rintro e w5 ⟨rfl, hb5⟩
    have hb5' := z_below hb5
    have HO5 := Lib.hid (LinesM.own_below HO.out hb5')
    have HB5 := Lib.hid (HBr.out.trans (hb5'.mono HBr.out.size))
    clear hb5 hb5'
    go_wp2_with (at_builtin; refine LinesM.wpList_push rfl _ _ 43 rfl w.heap.size 9 i0 (.string ⟨#[]⟩) 1 16 Tryz.underlying43 Hi.out Hz0.out Hz1.out Hz2.out rfl (by decide) _ k (LinesM.strs ((l.take k).map putA)) rfl HO5.out [.string s] rfl rfl (by simp [Value.oneCell']) (by unfold maxLen; omega) (by omega) HB5.out.size ?_; intro v' w6 hown6 hg6; have HO6 := Lib.hid hown6; have HB6 := Lib.hid (LinesM.below_grown HB5.out HO5.out hg6 HB5.out.size (Nat.le_refl _)); clear hown6 hg6)
    go_roundw
    case rel => exact ⟨k + 1, by omega, by go_num, Lib.hid (by rw [HNX.out]; exact HO6.out), HB6⟩
    case measure => simp [intOf]; omega
  · have hkn : k = l.length := by have := HN.out; omega
    have HO2 : Hid (wr.ownsRow w.heap.size 9 1 u3 (l.map putA).length (LinesM.strs (l.map putA))) := Lib.hid (by
      have h1 := HO.out
      rw [List.take_of_length_le (by omega), hkn] at h1
      rw [List.length_map]
      exact h1)
    clear hkn HO
    go_wp2
    go_ret
    exact ⟨_, rfl, HO2.out, HBr.out⟩
/-- 'append(s, xs...)' of m elements laid in a new block, as a step of a region that draws its order, behind a call. -/
theorem step_app {P : Program} {ops : Array Oper} {o : Oper} {a : Act} {w0 w : World} {K : Act → World → Prop} {Q : Exit → Act → World → Prop} {E : Prop} (hg : o.guard = none) (s x : Operand) (t : TypeId)
    (hop : o.op = Op.call { callee := Callee.builtin Builtin.append, args := #[s, x], argTypes := #[t, t] })
    (base : Nat) (e : TypeId) (i : TypeInfo) (z : Value) (size bytes : Nat) (ht : P.underlying t = some (.slice e)) (hi : P.info? e = some i) (hz : i.zero = some z)
    (hsize : i.size = size) (hby : i.bytes = bytes) (hzs : z.cells.size = size) (hsz : 0 < size)
    (v : Value) (n : Nat) (xs : List Value) (hs : a.eval s = v) (hown : w0.ownsRow base e size v n xs)
    (news : List Value) (m : Nat) (hw : w = w0.alloc (.cells news.toArray e)) (k : Nat) (hk : k = w0.heap.size) (hx : a.eval x = .slice (some ⟨k, 0, none⟩) m m) (hl : news.length = m * size) (h1 : ∀ u ∈ news, u.oneCell' = true)
    (h63 : n + m ≤ maxLen) (hbytes : (n + m) * bytes ≤ 140737488355328) (hbase : base ≤ w0.heap.size)
    (hK : ∀ v' w', w'.ownsRow base e size v' (n + m) (xs ++ news) → w0.grownBy w' v.ownBlock → K (a.put o.dst v') w') :
    if Region.wanted o (yielded ops a.tmps) = true then Oper.wp P o a w K Q else E := by
  have hwt : Region.wanted o (yielded ops a.tmps) = true := by simp [Region.wanted, hg]
  rw [if_pos hwt]
  subst hw
  subst hk
  refine wp_append_own (w := w0.alloc (.cells news.toArray e)) s x t hop base e i z size bytes ht hi hz hsize hby hzs hsz v n xs hs (hown.alloc (.cells news.toArray e)) ⟨w0.heap.size, 0, none⟩ m m news hx hl ?_ h1 h63 hbytes (by simp; omega) ?_
  · intro j u hu
    have e1 : (⟨w0.heap.size, 0, none⟩ : Addr).add j = ⟨w0.heap.size, j, none⟩ := by unfold Addr.add; split <;> simp_all
    rw [e1, (Own.made w0 e news).cell]
    exact hu
  · intro v' w' h2 h3 _
    refine hK v' w' h2 ⟨h3.os, h3.tape, h3.output, Nat.le_trans (by simp) h3.size, fun k hk hne => ?_⟩
    exact (h3.block k (by simp; omega) hne).trans (heap_alloc_old w0 _ hk)
theorem pair_len (l : List Bind) : (l.flatMap bindL).length = 2 * l.length := by
  induction l with
  | nil => rfl
  | cons a l ih => rw [List.flatMap_cons, List.length_append, ih]; simp [bindL]; omega
theorem strs_app (a b : List Wd) : LinesM.strs (a ++ b) = LinesM.strs a ++ LinesM.strs b := by simp [LinesM.strs]
theorem made_row {w W : World} {base g : Nat} (cs : List Value) (ws : List Wd) (hW : w.alloc (.cells cs.toArray 9) = W) (hg : g = w.heap.size) (hb : base ≤ w.heap.size) (hcs : cs = LinesM.strs ws) (hl : cs.length ≤ 100) : W.ownsRow base 9 1 (.slice (some ⟨g, 0, none⟩) cs.length cs.length) ws.length (LinesM.strs ws) := by
  subst hW hg hcs
  have := (Own.made w 9 (LinesM.strs ws)).row (base := base) (n := (LinesM.strs ws).length) (ys := LinesM.strs ws) hb (Nat.le_refl _) (by unfold maxLen; omega) rfl (by rw [List.take_length])
  have e : (LinesM.strs ws).length = ws.length := by simp [LinesM.strs]
  rw [e] at this ⊢
  exact this
set_option maxRecDepth 100000 in
set_option maxHeartbeats 8000000 in
theorem phiWords_any (lo hi : Nat) (w : World) (cs : List Value) (x : Phi) (hx : PhiC lo hi w cs x) (hh : hi ≤ w.heap.size) (hI : phiI x) (hl : x.ins.length ≤ 1048576) :
    Calls Tryz.prog 105 #[.agg cs.toArray] w (WordsP w (phiL x)) := by
  obtain ⟨i0, hi0, hz0, hz1, hz2⟩ := info_parts s_info
  have Hi := Lib.hid hi0
  have Hz0 := Lib.hid hz0
  have Hz1 := Lib.hid hz1
  have Hz2 := Lib.hid hz2
  clear hi0 hz0 hz1 hz2
  obtain ⟨u, rfl, kd⟩ := hx
  obtain ⟨ds, l⟩ := x
  simp only at kd hl hI ⊢
  obtain ⟨A, n, cap, b, off, rfl, hn, hm, ha, hc⟩ := kd
  show Calls Tryz.prog 105 #[.agg #[str ds, .slice A n cap]] w _
  have hn2 : n ≤ 1048576 := by omega
  have HC := Lib.hid hc
  have HA := Lib.hid ha
  have HN := Lib.hid hn
  have HI := Lib.hid hI
  clear hc ha hn hI hl
  go_enter Tryz.func105, Tryz.ntmps105
  go_wp2_with fail
  obtain ⟨W2, hW2⟩ : ∃ W2, (w.alloc (.cells #[str ds, .slice A n cap] 131)).alloc (.cells #[str kPhi, str ds] 9) = W2 := ⟨_, rfl⟩
  have hm2 := made_row (base := w.heap.size) (g := w.heap.size + 1) [str kPhi, str ds] [kPhi, ds] hW2 (by simp) (by simp) rfl (by simp)
  have hb2 : Below w.heap.size w W2 := by rw [← hW2]; exact ((Below.refl _ _).alloc (Nat.le_refl _) _).alloc (by simp) _
  have HM2 := Lib.hid hm2
  have HB2 := Lib.hid hb2
  change Code.wp _ _ _ _ ((w.alloc (.cells #[str ds, .slice A n cap] 131)).alloc (.cells #[str kPhi, str ds] 9))
  rw [hW2]
  clear hm2 hb2 hW2
  go_loopw [3, 12] (fun u i wr => ∃ k : Nat, k ≤ n ∧ i = .int .i64 k ∧ Hid (wr.ownsRow w.heap.size 9 1 u (2 + 2 * k) (LinesM.strs (kPhi :: ds :: (l.take k).flatMap bindL))) ∧ Hid (Below w.heap.size w wr)) (fun _ i _ => n - (intOf i).toNat)
  case atStart => exact ⟨0, Nat.zero_le _, rfl, HM2, HB2⟩
  case round =>
  obtain ⟨k, hk, rfl, HO, HBr⟩ := hrel
  by_cases hlt : k < n
  · obtain ⟨⟨bn, ak, as_, an⟩, hx⟩ : ∃ x, l[k]? = some x := ⟨_, List.getElem?_eq_getElem (by have := HN.out; omega)⟩
    obtain ⟨rfl, _, hb1⟩ := HA.out (by omega)
    obtain ⟨cs, _, q1, rfl⟩ := HC.out k _ hx
    obtain ⟨n0, n1, n2, n3⟩ := at4 (cells_later q1 HBr.out (show b < w.heap.size by omega))
    obtain ⟨s, hs⟩ : ∃ s : ByteArray, s.data.toList = putA ⟨ak, as_, an⟩ := ⟨⟨(putA ⟨ak, as_, an⟩).toArray⟩, rfl⟩
    have Q := Lib.hid (put_as ⟨ak, as_, an⟩ (HI.out _ (List.mem_of_getElem? hx)) s hs)
    have hnx : LinesM.strs (kPhi :: ds :: (l.take (k + 1)).flatMap bindL) = LinesM.strs (kPhi :: ds :: (l.take k).flatMap bindL) ++ [str bn, .string s] := by
      rw [LinesM.take_next hx, List.flatMap_append, ← List.cons_append, ← List.cons_append, strs_app]
      congr 1
      simp [bindL, LinesM.strs, ← hs]
    have HNX := Lib.hid hnx
    clear q1 hx hs hnx
    have al0 : ∀ (c : Nat) (u : Value), [str bn, i64 ak, str as_, i64 an][c]? = some u → ∀ w', Below (wr.heap.size + 1) (wr.alloc (.cells #[str bn, i64 ak, str as_, i64 an] 133)) w' → w'.cell? ⟨wr.heap.size, c, none⟩ = some u := fun c u hu w' hb => own_hold6 (Own.made wr 133 [str bn, i64 ak, str as_, i64 an]) hb (Nat.lt_succ_self _) c hu
    have AL := Lib.hid al0
    clear al0
    go_wp2_with fail
    go_region_law (first
      | (go_simp; go_at_call 145; (with_reducible refine (Q.out _).mono ?_); rintro e w5 ⟨rfl, hb5⟩; have hb5' : Below wr.heap.size wr w5 := (((Below.refl wr.heap.size wr).alloc (Nat.le_refl _) _).drew).trans (hb5.mono (by simp)); have HO5 := Lib.hid (LinesM.own_below HO.out hb5'); have HB5 := Lib.hid (HBr.out.trans (hb5'.mono HBr.out.size)); have p0 := AL.out 0 _ rfl w5 ((Below.refl _ _).drew.trans (hb5.mono (by simp))); clear hb5 hb5')
      | (refine step_app (w0 := w5) rfl _ _ 43 (by rfl) w.heap.size 9 i0 (.string ⟨#[]⟩) 1 16 Tryz.underlying43 Hi.out Hz0.out Hz1.out Hz2.out rfl (by decide) _ (2 + 2 * k) _ (by rfl) HO5.out [str bn, .string s] 2 (by rfl) _ (by rfl) (by rfl) rfl (by simp [Value.oneCell']) (by unfold maxLen; omega) (by omega) HB5.out.size ?_; intro v' w6 hown6 hg6; have HO6 := Lib.hid hown6; have HB6 := Lib.hid (LinesM.below_grown HB5.out HO5.out hg6 HB5.out.size (Nat.le_refl _)); clear hown6 hg6))
    all_goals
      go_wp2
      go_roundw
      case rel => exact ⟨k + 1, by omega, by go_num, Lib.hid (by rw [HNX.out]; exact HO6.out), HB6⟩
      case measure => simp [intOf]; omega
  · have hkn : k = l.length := by have := HN.out; omega
    have HO2 : Hid (wr.ownsRow w.heap.size 9 1 u3 (phiL ⟨ds, l⟩).length (LinesM.strs (phiL ⟨ds, l⟩))) := Lib.hid (by
      have h1 := HO.out
      rw [List.take_of_length_le (by omega)] at h1
      have h2 : (phiL ⟨ds, l⟩).length = 2 + 2 * k := by
        rw [hkn]
        unfold phiL
        simp only [List.length_cons]
        have := pair_len l
        omega
      rw [h2]
      exact h1)
    clear hkn HO
    go_wp2
    go_ret
    exact ⟨_, rfl, HO2.out, HBr.out⟩
end Go.Proofs.YtkmndgjabkjafaaGreatDoor.Sh6

namespace Go.Proofs.YtkmndgjabkjafaaGreatDoor.Sh6
open Go.RowKit Api Syn WordM Mem Rd5

theorem num_as (n : Int) (hI : NumM.In n) (s : ByteArray) (hs : s.data.toList = NumM.dec n) (w : World) : Calls Tryz.prog 104 #[i64 n] w fun e w' => e = .returned (.string s) ∧ Below w.heap.size w w' := by
  have e : s = ⟨(NumM.dec n).toArray⟩ := bytes_ext hs
  rw [e]
  exact put_any n w hI
/-- 'append(a, b...)', both rows the call's own, as a step of a region that draws its order. -/
theorem step_rows {P : Program} {ops : Array Oper} {o : Oper} {a : Act} {w : World} {K : Act → World → Prop} {Q : Exit → Act → World → Prop} {E : Prop} (hg : o.guard = none) (s x : Operand) (t : TypeId)
    (hop : o.op = Op.call { callee := Callee.builtin Builtin.append, args := #[s, x], argTypes := #[t, t] })
    (base : Nat) (e : TypeId) (i : TypeInfo) (z : Value) (size bytes : Nat) (ht : P.underlying t = some (.slice e)) (hi : P.info? e = some i) (hz : i.zero = some z)
    (hsize : i.size = size) (hby : i.bytes = bytes) (hzs : z.cells.size = size) (hsz : 0 < size)
    (v : Value) (n : Nat) (xs : List Value) (hs : a.eval s = v) (hown : w.ownsRow base e size v n xs)
    (xv : Value) (m : Nat) (news : List Value) (hx : a.eval x = xv) (hxo : w.ownsRow base e size xv m news) (h1 : ∀ u ∈ news, u.oneCell' = true)
    (h63 : n + m ≤ maxLen) (hbytes : (n + m) * bytes ≤ 140737488355328) (hbase : base ≤ w.heap.size)
    (hK : ∀ v' w', w'.ownsRow base e size v' (n + m) (xs ++ news) → Below base w w' → K (a.put o.dst v') w') :
    if Region.wanted o (yielded ops a.tmps) = true then Oper.wp P o a w K Q else E := by
  have hwt : Region.wanted o (yielded ops a.tmps) = true := by simp [Region.wanted, hg]
  rw [if_pos hwt]
  rcases hxo.2 with ⟨hxn, hm⟩ | ⟨g, cap, cur, hxs, hbg, hg, hnc, hcm, hcs, htake⟩
  · subst hm
    have hn : news = [] := List.eq_nil_of_length_eq_zero (by simpa using hxo.1)
    subst hn
    have hrun := run_append_owned_none (P := P) (w := w) base t o.type e i size ht hi v n xs hown
    unfold Oper.wp
    simp [execOp, hop, resolve, invoke, builtin, hs, hx, hxn, hrun, Result.andThen]
    exact hK v w (by simpa using hown) (Below.refl _ _)
  · refine wp_append_own (w := w) s x t hop base e i z size bytes ht hi hz hsize hby hzs hsz v n xs hs hown ⟨g, 0, none⟩ m cap news (by rw [hx, hxs]) hxo.1 (hxo.cells (g := g) (by rw [hxs]; rfl)) h1 h63 hbytes hbase ?_
    intro v' w' h2 h3 _
    exact hK v' w' h2 ((Below.refl base w).grown h3 hbase (fun k hk => (hown.lt k hk).1))
theorem ones_strs (l : List Wd) : ∀ u ∈ LinesM.strs l, u.oneCell' = true := by
  intro u hu
  obtain ⟨x, _, rfl⟩ := List.mem_map.1 hu
  rfl
set_option maxRecDepth 100000 in
set_option maxHeartbeats 8000000 in
theorem virtWords_any (lo hi : Nat) (w : World) (cs : List Value) (x : Virt) (hx : VirtC lo hi w cs x) (hh : hi ≤ w.heap.size) (hI : ∀ a ∈ x.vals, argI a) (hl : x.vals.length ≤ 1048576) :
    Calls Tryz.prog 148 #[.agg cs.toArray] w (WordsP w (virtL x)) := by
  obtain ⟨i0, hi0, hz0, hz1, hz2⟩ := info_parts s_info
  have Hi := Lib.hid hi0
  have Hz0 := Lib.hid hz0
  have Hz1 := Lib.hid hz1
  have Hz2 := Lib.hid hz2
  clear hi0 hz0 hz1 hz2
  obtain ⟨u, rfl, kd⟩ := hx
  obtain ⟨ds, l⟩ := x
  simp only at kd hl hI ⊢
  obtain ⟨A, cap, rfl⟩ := kd.form
  show Calls Tryz.prog 148 #[.agg #[str ds, .slice A l.length cap]] w _
  have QP := Lib.hid fun (w' : World) (hb : Below w.heap.size w w') => puts_any lo hi w' _ l (Args.move (Still.of_below (hb.mono hh)) kd) (Nat.le_trans hh hb.size) hI hl
  have HM2 := Lib.hid (made_row (base := w.heap.size) (g := w.heap.size + 1) (w := w.alloc (.cells #[str ds, .slice A l.length cap] 169)) [.string ⟨#[111, 98, 106]⟩, str ds] [kObj, ds] rfl (by simp) (by simp) rfl (by simp))
  have HBE := Lib.hid (((Below.refl w.heap.size w).alloc (Nat.le_refl _) (.cells #[str ds, .slice A l.length cap] 169)).drew)
  have HBD := Lib.hid ((((Below.refl w.heap.size w).alloc (Nat.le_refl _) (.cells #[str ds, .slice A l.length cap] 169)).alloc (by simp) (.cells #[.string ⟨#[111, 98, 106]⟩, str ds] 9)).drew)
  clear kd hI
  go_enter Tryz.func148, Tryz.ntmps148
  go_wp2_with fail
  go_region_law (first
    | (go_simp; go_at_call 170; (with_reducible refine (QP.out _ HBD.out).mono ?_); rintro e w5 ⟨v5, rfl, ho5, hb5⟩; have HO5 := Lib.hid (LinesM.own_lower ho5 HBD.out.size); have HM5 := Lib.hid (LinesM.own_below HM2.out ((Below.refl _ _).drew.trans hb5)); have HB5 := Lib.hid (HBD.out.trans (hb5.mono HBD.out.size)); clear ho5 hb5)
    | (go_simp; go_at_call 170; (with_reducible refine (QP.out _ HBE.out).mono ?_); rintro e w7 ⟨v5, rfl, ho5, hb5⟩; have p0 := own_hold6 (Own.made w 169 [str ds, .slice A l.length cap]) ((Below.refl _ _).drew.trans hb5) (by simp) 0 rfl; have hb7 := HBE.out.trans (hb5.mono HBE.out.size); have HO5 := Lib.hid (World.ownsRow.alloc (LinesM.own_lower ho5 HBE.out.size) (.cells #[.string ⟨#[111, 98, 106]⟩, str ds] 9)); have HM5 := Lib.hid (made_row (base := w.heap.size) (g := w7.heap.size) (w := w7) [.string ⟨#[111, 98, 106]⟩, str ds] [kObj, ds] rfl rfl hb7.size rfl (by simp)); have HB5 := Lib.hid (hb7.alloc hb7.size (.cells #[.string ⟨#[111, 98, 106]⟩, str ds] 9)); clear ho5 hb5 hb7)
    | (refine step_rows rfl _ _ 43 (by rfl) w.heap.size 9 i0 (.string ⟨#[]⟩) 1 16 Tryz.underlying43 Hi.out Hz0.out Hz1.out Hz2.out rfl (by decide) _ 2 _ (by rfl) HM5.out _ (l.map putA).length _ (by rfl) HO5.out (ones_strs _) (by unfold maxLen; rw [List.length_map]; omega) (by rw [List.length_map]; omega) HB5.out.size ?_; intro v' w6 hown6 hb6; have HO6 := Lib.hid hown6; have HB6 := Lib.hid (HB5.out.trans hb6); clear hown6 hb6))
  all_goals
    go_wp2
    go_ret
    refine ⟨_, rfl, ?_, HB6.out⟩
    have h1 := HO6.out
    rw [← strs_app] at h1
    have h2 : (virtL ⟨ds, l⟩).length = 2 + (l.map putA).length := by simp [virtL]; omega
    rw [h2]
    exact h1
end Go.Proofs.YtkmndgjabkjafaaGreatDoor.Sh6
