/-
  Words6 Words7 Words9 Words10
-/
import Derived.Test.YtdgmdpphimenjaaDoorAlls
import Derived.Test.YtdgmdpphimenjaaDoorCallsL
import Derived.Test.YtdgmdpphimenjaaDoorHold
import Derived.Lib.Walk
/-
  Package show: the words of lines, walked.
-/
namespace Go.Proofs.YtdgmdpphimenjaaDoor.Sh6
open Go.RowKit Api Syn WordM Mem Rd5

theorem own_hold6 {w w' : World} {g B : Nat} {t : TypeId} {cs : List Value} (o : Own w g t cs) (hb : Below B w w') (hg : g < B) (i : Nat) {u : Value} (h : cs[i]? = some u) : w'.cell? ⟨g, i, none⟩ = some u := ((o.below hb hg).cell i).trans h
theorem s_info : (Tryd.prog.info? 9).map (fun i => (i.zero, i.size, i.bytes)) = some (some (.string ⟨#[]⟩), 1, 16) := by kernel_rfl
/-- A new row of words. -/
def WordsP (w : World) (ws : List Wd) (e : Ending) (w' : World) : Prop := ∃ v, e = .returned v ∧ w'.ownsRow w.heap.size 9 1 v ws.length (LinesM.strs ws) ∧ Below w.heap.size w w'
theorem put_as (a : Arg) (hI : argI a) (s : ByteArray) (hs : s.data.toList = putA a) (w : World) : Calls Tryd.prog 104 #[.agg #[i64 a.kind, str a.s, i64 a.n]] w fun e w' => e = .returned (.string s) ∧ Below w.heap.size w w' := by
  have := wput_any (ofA a) hI w
  have e : s = ⟨(wput (ofA a)).toArray⟩ := bytes_ext hs
  rw [← e] at this
  exact this
theorem strs_snoc (ws : List Wd) (x : Wd) : LinesM.strs (ws ++ [x]) = LinesM.strs ws ++ [str x] := by simp [LinesM.strs]
set_option maxRecDepth 100000 in
set_option maxHeartbeats 8000000 in
theorem puts_any (lo hi : Nat) (w : World) (v : Value) (l : List Arg) (h : Args lo hi w v l) (hh : hi ≤ w.heap.size) (hI : ∀ a ∈ l, argI a) (hl : l.length ≤ 1048576) :
    Calls Tryd.prog 127 #[v] w (WordsP w (l.map putA)) := by
  obtain ⟨i0, hi0, hz0, hz1, hz2⟩ := info_parts s_info
  have Hi := Lib.hid hi0
  have Hz0 := Lib.hid hz0
  have Hz1 := Lib.hid hz1
  have Hz2 := Lib.hid hz2
  clear hi0 hz0 hz1 hz2
  obtain ⟨A, n, cap, b, off, rfl, hn, hm, ha, hc⟩ := h
  have hn2 : n ≤ 1048576 := by omega
  have HC := Lib.hid hc
  have HA := Lib.hid ha
  have HN := Lib.hid hn
  have HI := Lib.hid hI
  clear hc ha hn hI hl
  go_enter Tryd.func127, Tryd.ntmps127
  go_wp2_with fail
  go_loopw [3, 8] (fun u i wr => ∃ k : Nat, k ≤ n ∧ i = .int .i64 k ∧ Hid (wr.ownsRow w.heap.size 9 1 u k (LinesM.strs ((l.take k).map putA))) ∧ Hid (Below w.heap.size w wr)) (fun _ i _ => n - (intOf i).toNat)
  case atStart => exact ⟨0, Nat.zero_le _, rfl, Lib.hid (World.ownsRow_nil _ _ _ _), Lib.hid (Below.refl _ _)⟩
  case round =>
  obtain ⟨k, hk, rfl, HO, HBr⟩ := hrel
  by_cases hlt : k < n
  · obtain ⟨⟨ak, as_, an⟩, hx⟩ : ∃ x, l[k]? = some x := ⟨_, List.getElem?_eq_getElem (by have := HN.out; omega)⟩
    obtain ⟨rfl, _, hb1⟩ := HA.out (by omega)
    obtain ⟨cs, _, q1, rfl⟩ := HC.out k _ hx
    obtain ⟨n0, n1, n2⟩ := at3 (cells_later q1 HBr.out (show b < w.heap.size by omega))
    obtain ⟨s, hs⟩ : ∃ s : ByteArray, s.data.toList = putA ⟨ak, as_, an⟩ := ⟨⟨(putA ⟨ak, as_, an⟩).toArray⟩, rfl⟩
    have Q := Lib.hid (put_as ⟨ak, as_, an⟩ (HI.out _ (List.mem_of_getElem? hx)) s hs)
    have hnx : LinesM.strs ((l.take (k + 1)).map putA) = LinesM.strs ((l.take k).map putA) ++ [.string s] := by
      rw [LinesM.take_next hx, List.map_append]
      show LinesM.strs (_ ++ [putA ⟨ak, as_, an⟩]) = _
      rw [strs_snoc, ← hs]
    have HNX := Lib.hid hnx
    clear q1 hx hs hnx
    go_wp2_with fail
    refine (Q.out _).mono ?_; rintro e w5 ⟨rfl, hb5⟩
    have hb5' := z_below hb5
    have HO5 := Lib.hid (LinesM.own_below HO.out hb5')
    have HB5 := Lib.hid (HBr.out.trans (hb5'.mono HBr.out.size))
    clear hb5 hb5'
    go_wp2_with (at_builtin; refine LinesM.wpList_push rfl _ _ 41 rfl w.heap.size 9 i0 (.string ⟨#[]⟩) 1 16 Tryd.underlying41 Hi.out Hz0.out Hz1.out Hz2.out rfl (by decide) _ k (LinesM.strs ((l.take k).map putA)) rfl HO5.out [.string s] rfl rfl (by simp [Value.oneCell']) (by unfold maxLen; omega) (by omega) HB5.out.size ?_; intro v' w6 hown6 hg6; have HO6 := Lib.hid hown6; have HB6 := Lib.hid (LinesM.below_grown HB5.out HO5.out hg6 HB5.out.size (Nat.le_refl _)); clear hown6 hg6)
    go_roundw
    case rel => exact ⟨k + 1, by omega, by go_num, Lib.hid (by rw [HNX.out]; exact HO6.out), HB6⟩
    case measure => simp [intOf]; omega
  · have hkn : k = l.length := by have := HN.out; omega
    have HO2 : Hid (wr.ownsRow w.heap.size 9 1 u3 (l.map putA).length (LinesM.strs (l.map putA))) := Lib.hid (by
      have h1 := HO.out
      rw [List.take_of_length_le (by omega), hkn] at h1
      rw [List.length_map]
      exact h1)
    clear hkn HO
    go_wp2
    go_ret
    exact ⟨_, rfl, HO2.out, HBr.out⟩
/-- 'append(s, xs...)' of m elements laid in a new block, as a step of a region that draws its order, behind a call. -/
theorem step_app {P : Program} {ops : Array Oper} {o : Oper} {a : Act} {w0 w : World} {K : Act → World → Prop} {Q : Exit → Act → World → Prop} {E : Prop} (hg : o.guard = none) (s x : Operand) (t : TypeId)
    (hop : o.op = Op.call { callee := Callee.builtin Builtin.append, args := #[s, x], argTypes := #[t, t] })
    (base : Nat) (e : TypeId) (i : TypeInfo) (z : Value) (size bytes : Nat) (ht : P.underlying t = some (.slice e)) (hi : P.info? e = some i) (hz : i.zero = some z)
    (hsize : i.size = size) (hby : i.bytes = bytes) (hzs : z.cells.size = size) (hsz : 0 < size)
    (v : Value) (n : Nat) (xs : List Value) (hs : a.eval s = v) (hown : w0.ownsRow base e size v n xs)
    (news : List Value) (m : Nat) (hw : w = w0.alloc (.cells news.toArray e)) (k : Nat) (hk : k = w0.heap.size) (hx : a.eval x = .slice (some ⟨k, 0, none⟩) m m) (hl : news.length = m * size) (h1 : ∀ u ∈ news, u.oneCell' = true)
    (h63 : n + m ≤ maxLen) (hbytes : (n + m) * bytes ≤ 140737488355328) (hbase : base ≤ w0.heap.size)
    (hK : ∀ v' w', w'.ownsRow base e size v' (n + m) (xs ++ news) → w0.grownBy w' v.ownBlock → K (a.put o.dst v') w') :
    if Region.wanted o (yielded ops a.tmps) = true then Oper.wp P o a w K Q else E := by
  have hwt : Region.wanted o (yielded ops a.tmps) = true := by simp [Region.wanted, hg]
  rw [if_pos hwt]
  subst hw
  subst hk
  refine wp_append_own (w := w0.alloc (.cells news.toArray e)) s x t hop base e i z size bytes ht hi hz hsize hby hzs hsz v n xs hs (hown.alloc (.cells news.toArray e)) ⟨w0.heap.size, 0, none⟩ m m news hx hl ?_ h1 h63 hbytes (by simp; omega) ?_
  · intro j u hu
    have e1 : (⟨w0.heap.size, 0, none⟩ : Addr).add j = ⟨w0.heap.size, j, none⟩ := by unfold Addr.add; split <;> simp_all
    rw [e1, (Own.made w0 e news).cell]
    exact hu
  · intro v' w' h2 h3 _
    refine hK v' w' h2 ⟨h3.os, h3.tape, h3.output, Nat.le_trans (by simp) h3.size, fun k hk hne => ?_⟩
    exact (h3.block k (by simp; omega) hne).trans (heap_alloc_old w0 _ hk)
theorem pair_len (l : List Bind) : (l.flatMap bindL).length = 2 * l.length := by
  induction l with
  | nil => rfl
  | cons a l ih => rw [List.flatMap_cons, List.length_append, ih]; simp [bindL]; omega
theorem strs_app (a b : List Wd) : LinesM.strs (a ++ b) = LinesM.strs a ++ LinesM.strs b := by simp [LinesM.strs]
theorem made_row {w W : World} {base g : Nat} (cs : List Value) (ws : List Wd) (hW : w.alloc (.cells cs.toArray 9) = W) (hg : g = w.heap.size) (hb : base ≤ w.heap.size) (hcs : cs = LinesM.strs ws) (hl : cs.length ≤ 100) : W.ownsRow base 9 1 (.slice (some ⟨g, 0, none⟩) cs.length cs.length) ws.length (LinesM.strs ws) := by
  subst hW hg hcs
  have := (Own.made w 9 (LinesM.strs ws)).row (base := base) (n := (LinesM.strs ws).length) (ys := LinesM.strs ws) hb (Nat.le_refl _) (by unfold maxLen; omega) rfl (by rw [List.take_length])
  have e : (LinesM.strs ws).length = ws.length := by simp [LinesM.strs]
  rw [e] at this ⊢
  exact this
set_option maxRecDepth 100000 in
set_option maxHeartbeats 8000000 in
theorem phiWords_any (lo hi : Nat) (w : World) (cs : List Value) (x : Phi) (hx : PhiC lo hi w cs x) (hh : hi ≤ w.heap.size) (hI : phiI x) (hl : x.ins.length ≤ 1048576) :
    Calls Tryd.prog 75 #[.agg cs.toArray] w (WordsP w (phiL x)) := by
  obtain ⟨i0, hi0, hz0, hz1, hz2⟩ := info_parts s_info
  have Hi := Lib.hid hi0
  have Hz0 := Lib.hid hz0
  have Hz1 := Lib.hid hz1
  have Hz2 := Lib.hid hz2
  clear hi0 hz0 hz1 hz2
  obtain ⟨u, rfl, kd⟩ := hx
  obtain ⟨ds, l⟩ := x
  simp only at kd hl hI ⊢
  obtain ⟨A, n, cap, b, off, rfl, hn, hm, ha, hc⟩ := kd
  show Calls Tryd.prog 75 #[.agg #[str ds, .slice A n cap]] w _
  have hn2 : n ≤ 1048576 := by omega
  have HC := Lib.hid hc
  have HA := Lib.hid ha
  have HN := Lib.hid hn
  have HI := Lib.hid hI
  clear hc ha hn hI hl
  go_enter Tryd.func75, Tryd.ntmps75
  go_wp2_with fail
  obtain ⟨W2, hW2⟩ : ∃ W2, (w.alloc (.cells #[str ds, .slice A n cap] 63)).alloc (.cells #[str kPhi, str ds] 9) = W2 := ⟨_, rfl⟩
  have hm2 := made_row (base := w.heap.size) (g := w.heap.size + 1) [str kPhi, str ds] [kPhi, ds] hW2 (by simp) (by simp) rfl (by simp)
  have hb2 : Below w.heap.size w W2 := by rw [← hW2]; exact ((Below.refl _ _).alloc (Nat.le_refl _) _).alloc (by simp) _
  have HM2 := Lib.hid hm2
  have HB2 := Lib.hid hb2
  change Code.wp _ _ _ _ ((w.alloc (.cells #[str ds, .slice A n cap] 63)).alloc (.cells #[str kPhi, str ds] 9))
  rw [hW2]
  clear hm2 hb2 hW2
  go_loopw [3, 12] (fun u i wr => ∃ k : Nat, k ≤ n ∧ i = .int .i64 k ∧ Hid (wr.ownsRow w.heap.size 9 1 u (2 + 2 * k) (LinesM.strs (kPhi :: ds :: (l.take k).flatMap bindL))) ∧ Hid (Below w.heap.size w wr)) (fun _ i _ => n - (intOf i).toNat)
  case atStart => exact ⟨0, Nat.zero_le _, rfl, HM2, HB2⟩
  case round =>
  obtain ⟨k, hk, rfl, HO, HBr⟩ := hrel
  by_cases hlt : k < n
  · obtain ⟨⟨bn, ak, as_, an⟩, hx⟩ : ∃ x, l[k]? = some x := ⟨_, List.getElem?_eq_getElem (by have := HN.out; omega)⟩
    obtain ⟨rfl, _, hb1⟩ := HA.out (by omega)
    obtain ⟨cs, _, q1, rfl⟩ := HC.out k _ hx
    obtain ⟨n0, n1, n2, n3⟩ := at4 (cells_later q1 HBr.out (show b < w.heap.size by omega))
    obtain ⟨s, hs⟩ : ∃ s : ByteArray, s.data.toList = putA ⟨ak, as_, an⟩ := ⟨⟨(putA ⟨ak, as_, an⟩).toArray⟩, rfl⟩
    have Q := Lib.hid (put_as ⟨ak, as_, an⟩ (HI.out _ (List.mem_of_getElem? hx)) s hs)
    have hnx : LinesM.strs (kPhi :: ds :: (l.take (k + 1)).flatMap bindL) = LinesM.strs (kPhi :: ds :: (l.take k).flatMap bindL) ++ [str bn, .string s] := by
      rw [LinesM.take_next hx, List.flatMap_append, ← List.cons_append, ← List.cons_append, strs_app]
      congr 1
      simp [bindL, LinesM.strs, ← hs]
    have HNX := Lib.hid hnx
    clear q1 hx hs hnx
    have al0 : ∀ (c : Nat) (u : Value), [str bn, i64 ak, str as_, i64 an][c]? = some u → ∀ w', Below (wr.heap.size + 1) (wr.alloc (.cells #[str bn, i64 ak, str as_, i64 an] 65)) w' → w'.cell? ⟨wr.heap.size, c, none⟩ = some u := fun c u hu w' hb => own_hold6 (Own.made wr 65 [str bn, i64 ak, str as_, i64 an]) hb (Nat.lt_succ_self _) c hu
    have AL := Lib.hid al0
    clear al0
    go_wp2_with fail
    go_region_law (first
      | (go_simp; go_at_call 104; (with_reducible refine (Q.out _).mono ?_); rintro e w5 ⟨rfl, hb5⟩; have hb5' : Below wr.heap.size wr w5 := (((Below.refl wr.heap.size wr).alloc (Nat.le_refl _) _).drew).trans (hb5.mono (by simp)); have HO5 := Lib.hid (LinesM.own_below HO.out hb5'); have HB5 := Lib.hid (HBr.out.trans (hb5'.mono HBr.out.size)); have p0 := AL.out 0 _ rfl w5 ((Below.refl _ _).drew.trans (hb5.mono (by simp))); clear hb5 hb5')
      | (refine step_app (w0 := w5) rfl _ _ 41 (by rfl) w.heap.size 9 i0 (.string ⟨#[]⟩) 1 16 Tryd.underlying41 Hi.out Hz0.out Hz1.out Hz2.out rfl (by decide) _ (2 + 2 * k) _ (by rfl) HO5.out [str bn, .string s] 2 (by rfl) _ (by rfl) (by rfl) rfl (by simp [Value.oneCell']) (by unfold maxLen; omega) (by omega) HB5.out.size ?_; intro v' w6 hown6 hg6; have HO6 := Lib.hid hown6; have HB6 := Lib.hid (LinesM.below_grown HB5.out HO5.out hg6 HB5.out.size (Nat.le_refl _)); clear hown6 hg6))
    all_goals
      go_wp2
      go_roundw
      case rel => exact ⟨k + 1, by omega, by go_num, Lib.hid (by rw [HNX.out]; exact HO6.out), HB6⟩
      case measure => simp [intOf]; omega
  · have hkn : k = l.length := by have := HN.out; omega
    have HO2 : Hid (wr.ownsRow w.heap.size 9 1 u3 (phiL ⟨ds, l⟩).length (LinesM.strs (phiL ⟨ds, l⟩))) := Lib.hid (by
      have h1 := HO.out
      rw [List.take_of_length_le (by omega)] at h1
      have h2 : (phiL ⟨ds, l⟩).length = 2 + 2 * k := by
        rw [hkn]
        unfold phiL
        simp only [List.length_cons]
        have := pair_len l
        omega
      rw [h2]
      exact h1)
    clear hkn HO
    go_wp2
    go_ret
    exact ⟨_, rfl, HO2.out, HBr.out⟩
end Go.Proofs.YtdgmdpphimenjaaDoor.Sh6

/-
  Package show: the words of objects, frames, ends, instructions, walked.
-/
namespace Go.Proofs.YtdgmdpphimenjaaDoor.Sh6
open Go.RowKit Api Syn WordM Mem Rd5

theorem num_as (n : Int) (hI : NumM.In n) (s : ByteArray) (hs : s.data.toList = NumM.dec n) (w : World) : Calls Tryd.prog 74 #[i64 n] w fun e w' => e = .returned (.string s) ∧ Below w.heap.size w w' := by
  have e : s = ⟨(NumM.dec n).toArray⟩ := bytes_ext hs
  rw [e]
  exact put_any n w hI
/-- 'append(a, b...)', both rows the call's own, as a step of a region that draws its order. -/
theorem step_rows {P : Program} {ops : Array Oper} {o : Oper} {a : Act} {w : World} {K : Act → World → Prop} {Q : Exit → Act → World → Prop} {E : Prop} (hg : o.guard = none) (s x : Operand) (t : TypeId)
    (hop : o.op = Op.call { callee := Callee.builtin Builtin.append, args := #[s, x], argTypes := #[t, t] })
    (base : Nat) (e : TypeId) (i : TypeInfo) (z : Value) (size bytes : Nat) (ht : P.underlying t = some (.slice e)) (hi : P.info? e = some i) (hz : i.zero = some z)
    (hsize : i.size = size) (hby : i.bytes = bytes) (hzs : z.cells.size = size) (hsz : 0 < size)
    (v : Value) (n : Nat) (xs : List Value) (hs : a.eval s = v) (hown : w.ownsRow base e size v n xs)
    (xv : Value) (m : Nat) (news : List Value) (hx : a.eval x = xv) (hxo : w.ownsRow base e size xv m news) (h1 : ∀ u ∈ news, u.oneCell' = true)
    (h63 : n + m ≤ maxLen) (hbytes : (n + m) * bytes ≤ 140737488355328) (hbase : base ≤ w.heap.size)
    (hK : ∀ v' w', w'.ownsRow base e size v' (n + m) (xs ++ news) → Below base w w' → K (a.put o.dst v') w') :
    if Region.wanted o (yielded ops a.tmps) = true then Oper.wp P o a w K Q else E := by
  have hwt : Region.wanted o (yielded ops a.tmps) = true := by simp [Region.wanted, hg]
  rw [if_pos hwt]
  rcases hxo.2 with ⟨hxn, hm⟩ | ⟨g, cap, cur, hxs, hbg, hg, hnc, hcm, hcs, htake⟩
  · subst hm
    have hn : news = [] := List.eq_nil_of_length_eq_zero (by simpa using hxo.1)
    subst hn
    have hrun := run_append_owned_none (P := P) (w := w) base t o.type e i size ht hi v n xs hown
    unfold Oper.wp
    simp [execOp, hop, resolve, invoke, builtin, hs, hx, hxn, hrun, Result.andThen]
    exact hK v w (by simpa using hown) (Below.refl _ _)
  · refine wp_append_own (w := w) s x t hop base e i z size bytes ht hi hz hsize hby hzs hsz v n xs hs hown ⟨g, 0, none⟩ m cap news (by rw [hx, hxs]) hxo.1 (hxo.cells (g := g) (by rw [hxs]; rfl)) h1 h63 hbytes hbase ?_
    intro v' w' h2 h3 _
    exact hK v' w' h2 ((Below.refl base w).grown h3 hbase (fun k hk => (hown.lt k hk).1))
theorem ones_strs (l : List Wd) : ∀ u ∈ LinesM.strs l, u.oneCell' = true := by
  intro u hu
  obtain ⟨x, _, rfl⟩ := List.mem_map.1 hu
  rfl
set_option maxRecDepth 100000 in
set_option maxHeartbeats 8000000 in
theorem virtWords_any (lo hi : Nat) (w : World) (cs : List Value) (x : Virt) (hx : VirtC lo hi w cs x) (hh : hi ≤ w.heap.size) (hI : ∀ a ∈ x.vals, argI a) (hl : x.vals.length ≤ 1048576) :
    Calls Tryd.prog 107 #[.agg cs.toArray] w (WordsP w (virtL x)) := by
  obtain ⟨i0, hi0, hz0, hz1, hz2⟩ := info_parts s_info
  have Hi := Lib.hid hi0
  have Hz0 := Lib.hid hz0
  have Hz1 := Lib.hid hz1
  have Hz2 := Lib.hid hz2
  clear hi0 hz0 hz1 hz2
  obtain ⟨u, rfl, kd⟩ := hx
  obtain ⟨ds, l⟩ := x
  simp only at kd hl hI ⊢
  obtain ⟨A, cap, rfl⟩ := kd.form
  show Calls Tryd.prog 107 #[.agg #[str ds, .slice A l.length cap]] w _
  have QP := Lib.hid fun (w' : World) (hb : Below w.heap.size w w') => puts_any lo hi w' _ l (Args.move (Still.of_below (hb.mono hh)) kd) (Nat.le_trans hh hb.size) hI hl
  have HM2 := Lib.hid (made_row (base := w.heap.size) (g := w.heap.size + 1) (w := w.alloc (.cells #[str ds, .slice A l.length cap] 113)) [.string ⟨#[111, 98, 106]⟩, str ds] [kObj, ds] rfl (by simp) (by simp) rfl (by simp))
  have HBE := Lib.hid (((Below.refl w.heap.size w).alloc (Nat.le_refl _) (.cells #[str ds, .slice A l.length cap] 113)).drew)
  have HBD := Lib.hid ((((Below.refl w.heap.size w).alloc (Nat.le_refl _) (.cells #[str ds, .slice A l.length cap] 113)).alloc (by simp) (.cells #[.string ⟨#[111, 98, 106]⟩, str ds] 9)).drew)
  clear kd hI
  go_enter Tryd.func107, Tryd.ntmps107
  go_wp2_with fail
  go_region_law (first
    | (go_simp; go_at_call 127; (with_reducible refine (QP.out _ HBD.out).mono ?_); rintro e w5 ⟨v5, rfl, ho5, hb5⟩; have HO5 := Lib.hid (LinesM.own_lower ho5 HBD.out.size); have HM5 := Lib.hid (LinesM.own_below HM2.out ((Below.refl _ _).drew.trans hb5)); have HB5 := Lib.hid (HBD.out.trans (hb5.mono HBD.out.size)); clear ho5 hb5)
    | (go_simp; go_at_call 127; (with_reducible refine (QP.out _ HBE.out).mono ?_); rintro e w7 ⟨v5, rfl, ho5, hb5⟩; have p0 := own_hold6 (Own.made w 113 [str ds, .slice A l.length cap]) ((Below.refl _ _).drew.trans hb5) (by simp) 0 rfl; have hb7 := HBE.out.trans (hb5.mono HBE.out.size); have HO5 := Lib.hid (World.ownsRow.alloc (LinesM.own_lower ho5 HBE.out.size) (.cells #[.string ⟨#[111, 98, 106]⟩, str ds] 9)); have HM5 := Lib.hid (made_row (base := w.heap.size) (g := w7.heap.size) (w := w7) [.string ⟨#[111, 98, 106]⟩, str ds] [kObj, ds] rfl rfl hb7.size rfl (by simp)); have HB5 := Lib.hid (hb7.alloc hb7.size (.cells #[.string ⟨#[111, 98, 106]⟩, str ds] 9)); clear ho5 hb5 hb7)
    | (refine step_rows rfl _ _ 41 (by rfl) w.heap.size 9 i0 (.string ⟨#[]⟩) 1 16 Tryd.underlying41 Hi.out Hz0.out Hz1.out Hz2.out rfl (by decide) _ 2 _ (by rfl) HM5.out _ (l.map putA).length _ (by rfl) HO5.out (ones_strs _) (by unfold maxLen; rw [List.length_map]; omega) (by rw [List.length_map]; omega) HB5.out.size ?_; intro v' w6 hown6 hb6; have HO6 := Lib.hid hown6; have HB6 := Lib.hid (HB5.out.trans hb6); clear hown6 hb6))
  all_goals
    go_wp2
    go_ret
    refine ⟨_, rfl, ?_, HB6.out⟩
    have h1 := HO6.out
    rw [← strs_app] at h1
    have h2 : (virtL ⟨ds, l⟩).length = 2 + (l.map putA).length := by simp [virtL]; omega
    rw [h2]
    exact h1
end Go.Proofs.YtdgmdpphimenjaaDoor.Sh6

/-
  Package show: the words of ends, and of instructions, walked.
-/
namespace Go.Proofs.YtdgmdpphimenjaaDoor.Sh6
open Go.RowKit Api Syn WordM Mem Rd5

/-- 'append(a, b...)', b read wherever it lies: in a list of operations, and as a step of a region that draws its order. -/
theorem wpList_read {P : Program} {w : World} {ops : Array Oper} {rest : List Oper} {o : Oper} {a : Act} {Q : Exit → Act → World → Prop} (hgd : o.guard = none) (s x : Operand) (t : TypeId)
    (ho : o.op = .call { callee := .builtin .append, args := #[s, x], argTypes := #[t, t] })
    (base : Nat) (e : TypeId) (i : TypeInfo) (z : Value) (size bytes : Nat) (ht : P.underlying t = some (.slice e)) (hi : P.info? e = some i) (hz : i.zero = some z)
    (hsize : i.size = size) (hby : i.bytes = bytes) (hzs : z.cells.size = size) (hsz : 0 < size)
    (v : Value) (n : Nat) (xs : List Value) (hs : a.eval s = v) (hown : w.ownsRow base e size v n xs)
    (b off m cap : Nat) (news : List Value) (hx : a.eval x = .slice (some ⟨b, off, none⟩) m cap) (hl : news.length = m * size) (hc : ∀ j u, news[j]? = some u → w.cell? ⟨b, off + j, none⟩ = some u) (h1 : ∀ u ∈ news, u.oneCell' = true)
    (h63 : n + m ≤ maxLen) (hbytes : (n + m) * bytes ≤ 140737488355328) (hbase : base ≤ w.heap.size)
    (h : ∀ v' w', w'.ownsRow base e size v' (n + m) (xs ++ news) → Below base w w' → wpList P ops Q rest (a.put o.dst v') w') :
    wpList P ops Q (o :: rest) a w := by
  refine wpList_append_own (w := w) hgd s x t ho base e i z size bytes ht hi hz hsize hby hzs hsz v n xs hs hown ⟨b, off, none⟩ m cap news hx hl (fun j u hu => ?_) h1 h63 hbytes hbase ?_
  · have e1 : (⟨b, off, none⟩ : Addr).add j = ⟨b, off + j, none⟩ := by unfold Addr.add; split <;> simp_all
    rw [e1]; exact hc j u hu
  · intro v' w' h2 h3 _
    exact h v' w' h2 ((Below.refl base w).grown h3 hbase (fun k hk => (hown.lt k hk).1))
theorem step_read {P : Program} {ops : Array Oper} {o : Oper} {a : Act} {w : World} {K : Act → World → Prop} {Q : Exit → Act → World → Prop} {E : Prop} (hg : o.guard = none) (s x : Operand) (t : TypeId)
    (hop : o.op = Op.call { callee := Callee.builtin Builtin.append, args := #[s, x], argTypes := #[t, t] })
    (base : Nat) (e : TypeId) (i : TypeInfo) (z : Value) (size bytes : Nat) (ht : P.underlying t = some (.slice e)) (hi : P.info? e = some i) (hz : i.zero = some z)
    (hsize : i.size = size) (hby : i.bytes = bytes) (hzs : z.cells.size = size) (hsz : 0 < size)
    (v : Value) (n : Nat) (xs : List Value) (hs : a.eval s = v) (hown : w.ownsRow base e size v n xs)
    (b off m cap : Nat) (news : List Value) (hx : a.eval x = .slice (some ⟨b, off, none⟩) m cap) (hl : news.length = m * size) (hc : ∀ j u, news[j]? = some u → w.cell? ⟨b, off + j, none⟩ = some u) (h1 : ∀ u ∈ news, u.oneCell' = true)
    (h63 : n + m ≤ maxLen) (hbytes : (n + m) * bytes ≤ 140737488355328) (hbase : base ≤ w.heap.size)
    (hK : ∀ v' w', w'.ownsRow base e size v' (n + m) (xs ++ news) → Below base w w' → K (a.put o.dst v') w') :
    if Region.wanted o (yielded ops a.tmps) = true then Oper.wp P o a w K Q else E := by
  have hwt : Region.wanted o (yielded ops a.tmps) = true := by simp [Region.wanted, hg]
  rw [if_pos hwt]
  refine wp_append_own (w := w) s x t hop base e i z size bytes ht hi hz hsize hby hzs hsz v n xs hs hown ⟨b, off, none⟩ m cap news hx hl (fun j u hu => ?_) h1 h63 hbytes hbase ?_
  · have e1 : (⟨b, off, none⟩ : Addr).add j = ⟨b, off + j, none⟩ := by unfold Addr.add; split <;> simp_all
    rw [e1]; exact hc j u hu
  · intro v' w' h2 h3 _
    exact hK v' w' h2 ((Below.refl base w).grown h3 hbase (fun k hk => (hown.lt k hk).1))
set_option maxRecDepth 100000 in
set_option maxHeartbeats 8000000 in
theorem retWords (w : World) (ak an n : Int) (a : Wd) (B1 : Option Addr) (c1 m : Nat) (s : ByteArray) (hI : argI ⟨ak, a, an⟩) (hs : s.data.toList = putA ⟨ak, a, an⟩) :
    Calls Tryd.prog 77 #[.agg #[i64 3, i64 ak, str a, i64 an, .slice B1 m c1, i64 n]] w (WordsP w [kRet, putA ⟨ak, a, an⟩]) := by
  have QN := Lib.hid (put_as ⟨ak, a, an⟩ hI s hs)
  have HS := Lib.hid hs
  clear hI hs
  go_enter Tryd.func77, Tryd.ntmps77
  go_wp2_with fail
  refine (QN.out _).mono ?_; rintro e w5 ⟨rfl, hb5⟩
  have HB5 := Lib.hid (z_below hb5)
  clear hb5
  go_wp2
  go_ret
  exact ⟨_, rfl, made_row (base := w.heap.size) (g := w5.heap.size) (w := w5) [.string ⟨#[114, 101, 116]⟩, .string s] _ rfl rfl HB5.out.size (by simp [LinesM.strs, ← HS.out, kRet]) (by simp), HB5.out.alloc HB5.out.size _⟩
set_option maxRecDepth 100000 in
set_option maxHeartbeats 8000000 in
theorem trapWords (w : World) (ak an n : Int) (a : Wd) (B1 : Option Addr) (c1 m : Nat) (s : ByteArray) (hI : NumM.In n) (hs : s.data.toList = NumM.dec n) :
    Calls Tryd.prog 77 #[.agg #[i64 4, i64 ak, str a, i64 an, .slice B1 m c1, i64 n]] w (WordsP w [kTrap, NumM.dec n]) := by
  have QN := Lib.hid (num_as n hI s hs)
  have HS := Lib.hid hs
  clear hI hs
  go_enter Tryd.func77, Tryd.ntmps77
  go_wp2_with fail
  refine (QN.out _).mono ?_; rintro e w5 ⟨rfl, hb5⟩
  have HB5 := Lib.hid (z_below hb5)
  clear hb5
  go_wp2
  go_ret
  exact ⟨_, rfl, made_row (base := w.heap.size) (g := w5.heap.size) (w := w5) [.string ⟨#[116, 114, 97, 112]⟩, .string s] _ rfl rfl HB5.out.size (by simp [LinesM.strs, ← HS.out, kTrap]) (by simp), HB5.out.alloc HB5.out.size _⟩
set_option maxRecDepth 100000 in
set_option maxHeartbeats 8000000 in
theorem jumpWords (w : World) (ak an n : Int) (a x : Wd) (b off c1 : Nat) (hb : b < w.heap.size) (hc : w.cell? ⟨b, off, none⟩ = some (str x)) :
    Calls Tryd.prog 77 #[.agg #[i64 1, i64 ak, str a, i64 an, .slice (some ⟨b, off, none⟩) 1 c1, i64 n]] w (WordsP w [kJump, x]) := by
  obtain ⟨i0, hi0, hz0, hz1, hz2⟩ := info_parts s_info
  have Hi := Lib.hid hi0
  have Hz0 := Lib.hid hz0
  have Hz1 := Lib.hid hz1
  have Hz2 := Lib.hid hz2
  clear hi0 hz0 hz1 hz2
  go_enter Tryd.func77, Tryd.ntmps77
  have HM2 := Lib.hid (made_row (base := w.heap.size) (g := w.heap.size + 1) (w := w.alloc (.cells #[i64 1, i64 ak, str a, i64 an, .slice (some ⟨b, off, none⟩) 1 c1, i64 n] 46)) [.string ⟨#[106, 117, 109, 112]⟩] [kJump] rfl (by simp) (by simp) rfl (by simp))
  have HBD := Lib.hid (((Below.refl w.heap.size w).alloc (Nat.le_refl _) (.cells #[i64 1, i64 ak, str a, i64 an, .slice (some ⟨b, off, none⟩) 1 c1, i64 n] 46)).alloc (by simp) (.cells #[.string ⟨#[106, 117, 109, 112]⟩] 9))
  have HCX := Lib.hid hc
  clear hc
  go_wp2_with (at_builtin; refine wpList_read rfl _ _ 41 rfl w.heap.size 9 i0 (.string ⟨#[]⟩) 1 16 Tryd.underlying41 Hi.out Hz0.out Hz1.out Hz2.out rfl (by decide) _ 1 _ rfl HM2.out b off 1 c1 [str x] rfl rfl (fun j u hu => by (match j, hu with | 0, hu => (injection hu with hu; subst hu; exact (HBD.out.cell (p := ⟨b, off, none⟩) hb).trans HCX.out) | j + 1, hu => simp at hu)) (by simp [Value.oneCell']) (by unfold maxLen; omega) (by omega) HBD.out.size ?_; intro v' w6 hown6 hb6; have HO6 := Lib.hid hown6; have HB6 := Lib.hid (HBD.out.trans hb6); clear hown6 hb6)
  go_ret
  exact ⟨_, rfl, HO6.out, HB6.out⟩
set_option maxRecDepth 100000 in
set_option maxHeartbeats 8000000 in
theorem branchWords (w : World) (ak an n : Int) (a x y : Wd) (b off c1 : Nat) (hb : b < w.heap.size) (hc : w.cell? ⟨b, off, none⟩ = some (str x)) (hc2 : w.cell? ⟨b, off + 1, none⟩ = some (str y)) (s : ByteArray) (hI : argI ⟨ak, a, an⟩) (hs : s.data.toList = putA ⟨ak, a, an⟩) :
    Calls Tryd.prog 77 #[.agg #[i64 2, i64 ak, str a, i64 an, .slice (some ⟨b, off, none⟩) 2 c1, i64 n]] w (WordsP w [kBranch, putA ⟨ak, a, an⟩, x, y]) := by
  obtain ⟨i0, hi0, hz0, hz1, hz2⟩ := info_parts s_info
  have Hi := Lib.hid hi0
  have Hz0 := Lib.hid hz0
  have Hz1 := Lib.hid hz1
  have Hz2 := Lib.hid hz2
  have QN := Lib.hid (put_as ⟨ak, a, an⟩ hI s hs)
  have HS := Lib.hid hs
  clear hi0 hz0 hz1 hz2 hI hs
  go_enter Tryd.func77, Tryd.ntmps77
  go_wp2_with fail
  have HCX := Lib.hid hc
  have HCY := Lib.hid hc2
  clear hc hc2
  go_region_law (first
    | (go_simp; go_at_call 104; (with_reducible refine (QN.out _).mono ?_); rintro e w5 ⟨rfl, hb5⟩; have hb7 := (Below.refl _ _).drew.trans hb5; have p4 := own_hold6 (Own.made w 46 [i64 2, i64 ak, str a, i64 an, .slice (some ⟨b, off, none⟩) 2 c1, i64 n]) hb7 (by simp) 4 rfl; have hb8 := ((Below.refl w.heap.size w).alloc (Nat.le_refl _) (.cells #[i64 2, i64 ak, str a, i64 an, .slice (some ⟨b, off, none⟩) 2 c1, i64 n] 46)).trans (hb7.mono (by simp)); have l0 : w.heap.size < w5.heap.size := World.block_lt_of_cell? w5 _ p4; have HM5 := Lib.hid (made_row (base := w.heap.size) (g := w5.heap.size) (w := w5) [.string ⟨#[98, 114, 97, 110, 99, 104]⟩, .string s] [kBranch, putA ⟨ak, a, an⟩] rfl rfl hb8.size (by simp [LinesM.strs, ← HS.out, kBranch]) (by simp)); have HB5 := Lib.hid (hb8.alloc hb8.size (.cells #[.string ⟨#[98, 114, 97, 110, 99, 104]⟩, .string s] 9)); clear hb5 hb7 hb8)
    | (refine step_read rfl _ _ 41 (by rfl) w.heap.size 9 i0 (.string ⟨#[]⟩) 1 16 Tryd.underlying41 Hi.out Hz0.out Hz1.out Hz2.out rfl (by decide) _ 2 _ (by rfl) HM5.out b off 2 c1 [str x, str y] (by rfl) rfl (fun j u hu => by (match j, hu with | 0, hu => (injection hu with hu; subst hu; exact (HB5.out.cell (p := ⟨b, off, none⟩) hb).trans HCX.out) | 1, hu => (injection hu with hu; subst hu; exact (HB5.out.cell (p := ⟨b, off + 1, none⟩) hb).trans HCY.out) | j + 2, hu => simp at hu)) (by simp [Value.oneCell']) (by unfold maxLen; omega) (by omega) HB5.out.size ?_; intro v' w6 hown6 hb6; have HO6 := Lib.hid hown6; have HB6 := Lib.hid (HB5.out.trans hb6); clear hown6 hb6))
  all_goals
    go_wp2
    go_ret
    exact ⟨_, rfl, HO6.out, HB6.out⟩
theorem dests_one {l : List Wd} (h : destsR 1 l = true) : ∃ x, l = [x] := by
  simp only [destsR, Bool.and_eq_true, decide_eq_true_eq] at h
  match l, h.1 with
  | [x], _ => exact ⟨x, rfl⟩
theorem dests_two {l : List Wd} (h : destsR 2 l = true) : ∃ x y, l = [x, y] := by
  simp only [destsR, Bool.and_eq_true, decide_eq_true_eq] at h
  match l, h.1 with
  | [x, y], _ => exact ⟨x, y, rfl⟩
theorem endWords_any (lo hi : Nat) (w : World) (cs : List Value) (x : Api.Term) (hx : TermC lo hi w cs x) (hh : hi ≤ w.heap.size) (hI : finI x) (hR : finR x = true) :
    Calls Tryd.prog 77 #[.agg cs.toArray] w (WordsP w (endL x)) := by
  obtain ⟨u, rfl, kd⟩ := hx
  obtain ⟨k, ⟨ak, a, an⟩, dl, n⟩ := x
  obtain ⟨hI1, hI2⟩ := hI
  simp only at kd hI1 hI2 ⊢
  obtain ⟨A, m, cap, b, off, rfl, hn, hm, ha, hc⟩ := kd
  unfold finR at hR
  unfold endL
  simp only at hR ⊢
  split at hR
  · rename_i hk
    subst hk
    rw [if_pos rfl]
    simp only [Bool.and_eq_true] at hR
    obtain ⟨x, rfl⟩ := dests_one hR.2.1
    obtain rfl : m = 1 := hn
    obtain ⟨rfl, _, hb⟩ := ha (by omega)
    obtain ⟨cs, _, q, rfl⟩ := hc 0 x rfl
    exact jumpWords w ak an n a x b off cap (by omega) (q 0 _ rfl)
  · rename_i h1
    rw [if_neg h1]
    split at hR
    · rename_i hk
      subst hk
      rw [if_pos rfl]
      simp only [Bool.and_eq_true] at hR
      obtain ⟨x, y, rfl⟩ := dests_two hR.2.1
      obtain rfl : m = 2 := hn
      obtain ⟨rfl, _, hb⟩ := ha (by omega)
      obtain ⟨cs, _, q, rfl⟩ := hc 0 x rfl
      obtain ⟨cs, _, q2, rfl⟩ := hc 1 y rfl
      exact branchWords w ak an n a x y b off cap (by omega) (q 0 _ rfl) (q2 0 _ rfl) ⟨(putA ⟨ak, a, an⟩).toArray⟩ hI1 rfl
    · rename_i h2
      rw [if_neg h2]
      split at hR
      · rename_i hk
        subst hk
        rw [if_pos rfl]
        exact retWords w ak an n a A cap m ⟨(putA ⟨ak, a, an⟩).toArray⟩ hI1 rfl
      · rename_i h3
        rw [if_neg h3]
        split at hR
        · rename_i hk
          subst hk
          exact trapWords w ak an n a A cap m ⟨(NumM.dec n).toArray⟩ hI2 rfl
        · cases hR
end Go.Proofs.YtdgmdpphimenjaaDoor.Sh6

/-
  Package show: the words of instructions, walked.
-/
namespace Go.Proofs.YtdgmdpphimenjaaDoor.Sh6
open Go.RowKit Api Syn WordM Mem Rd5

theorem ahead6 (op : Int) (w : World) : Calls Tryd.prog 126 #[i64 op] w fun e w' => e = .returned (i64 (aheadV op : Nat)) ∧ w = w' := by
  by_cases h : op = 26 ∨ op = 27
  · rcases h with rfl | rfl
    all_goals
      go_enter Tryd.func126, Tryd.ntmps126
      go_wp2
      go_ret
      exact ⟨rfl, rfl⟩
  · have e : aheadV op = 0 := by unfold aheadV; rw [if_neg h]
    rw [e]
    have h1 : (op == 26) = false := by simp; omega
    have h2 : (op == 27) = false := by simp; omega
    clear h e
    go_enter Tryd.func126, Tryd.ntmps126
    go_wp2
    go_ret
    exact ⟨rfl, rfl⟩
theorem ahead_to (op : Int) (k : Nat) (h : aheadV op = k) (w : World) : Calls Tryd.prog 126 #[i64 op] w fun e w' => e = .returned (i64 (k : Int)) ∧ w = w' := by rw [← h]; exact ahead6 op w
/-- a row's first things, and those behind them. -/
theorem args_take {lo hi : Nat} {w : World} {A : Option Addr} {n cap k : Nat} {l : List Arg} (h : Args lo hi w (.slice A n cap) l) (hk : k ≤ n) (_ : n ≤ cap) : Args lo hi w (.slice A k cap) (l.take k) := by
  obtain ⟨A', n', cap', b, off, e, hn, hm, ha, hc⟩ := h
  cases e
  exact ⟨A, k, cap, b, off, rfl, by rw [List.length_take]; omega, by omega, fun h0 => ha (by omega), fun i x hx => hc i x (by
    rw [List.getElem?_take] at hx
    split at hx
    · exact hx
    · cases hx)⟩
theorem args_drop {lo hi : Nat} {w : World} {b off n cap k c : Nat} {l : List Arg} (h : Args lo hi w (.slice (some ⟨b, off, none⟩) n cap) l) (hk : k ≤ n) (h0 : 0 < n) (hc2 : n - k ≤ c) : Args lo hi w (.slice (some ⟨b, off + k * 3, none⟩) (n - k) c) (l.drop k) := by
  obtain ⟨A', n', cap', b', off', e, hn, hm, ha, hc⟩ := h
  cases e
  obtain ⟨e, h1, h2⟩ := ha (by omega)
  simp only [Option.some.injEq, Addr.mk.injEq, and_true] at e
  obtain ⟨rfl, rfl⟩ := e
  refine ⟨_, n - k, c, b, off + k * 3, rfl, by rw [List.length_drop]; omega, by omega, fun _ => ⟨rfl, by omega, by omega⟩, fun i x hx => ?_⟩
  rw [List.getElem?_drop] at hx
  obtain ⟨cs, c1, c2, c3⟩ := hc (k + i) x hx
  refine ⟨cs, c1, fun j u hj => ?_, c3⟩
  rw [← c2 j u hj]
  congr 2
  rw [Nat.add_mul]
  omega
theorem args_end {lo hi : Nat} {w : World} {A A2 : Option Addr} {n cap : Nat} {l : List Arg} (h : Args lo hi w (.slice A n cap) l) (hc : cap - 1 = 0) (hk : 1 ≤ n) (hn : n ≤ cap) : Args lo hi w (.slice A2 (n - 1) 0) (l.drop 1) := by
  obtain ⟨A', n', cap', b', off', e, hn', hm, ha, hc'⟩ := h
  cases e
  have e1 : l.drop 1 = [] := List.drop_eq_nil_of_le (by omega)
  rw [e1]
  exact ⟨A2, n - 1, 0, 0, 0, rfl, by simp; omega, by omega, fun h0 => absurd h0 (by omega), fun i x hx => by simp at hx⟩
theorem row_eq {w : World} {b n m : Nat} {v : Value} {xs ys : List Value} (h : w.ownsRow b 9 1 v n xs) (hn : n = m) (hx : xs = ys) : w.ownsRow b 9 1 v m ys := by
  subst hn hx
  exact h
theorem keep_f {w w' : World} {base b n : Nat} {t : TypeId} {cs : List Value} {v : Value} {xs : List Value} (hO : Own w b t cs) (ht : t ≠ 9) (own : w.ownsRow base 9 1 v n xs) (hg : w.grownBy w' v.ownBlock) : Own w' b t cs := by
  refine (hg.block b hO.lt ?_).trans hO
  intro he
  rcases own.2 with ⟨rfl, _⟩ | ⟨g, cap, cur, rfl, hb, h2, _⟩
  · simp [Value.ownBlock] at he
  · simp only [Value.ownBlock, Option.some.injEq] at he
    subst he
    have h3 : some (Obj.cells cs.toArray t (0, 0)) = some (Obj.cells cur 9 (0, 0)) := hO.symm.trans h2
    simp only [Option.some.injEq, Obj.cells.injEq] at h3
    exact ht h3.2.1
/-- 'append(nil, x, ..)': the row is new, and the call's own. -/
theorem fresh_row {w1 q W : World} {base g c : Nat} (cs : List Value) (ws : List Wd) (hW : (w1.alloc (.cells (cs.toArray ++ Builtin.zeroCells #[.string ⟨#[]⟩] (c - ws.length)) 9)).drew = W) (hcs : cs = LinesM.strs ws) (h0 : 0 < ws.length) (hl : ws.length ≤ 100) (hb : base ≤ w1.heap.size) (hg : g = w1.heap.size) (hc : c = grownCap q ws.length 0 9) : W.ownsRow base 9 1 (.slice (some ⟨g, 0, none⟩) ws.length c) ws.length (LinesM.strs ws) := by
  subst hW hg hcs
  have h1 : ws.length ≤ c := by rw [hc]; exact grownCap_ge q _ 0 _
  have h2 : c ≤ maxLen := by rw [hc]; exact grownCap_le_maxLen q _ 0 _ (by unfold maxLen; omega)
  have e : (LinesM.strs ws).length = ws.length := by simp [LinesM.strs]
  refine ⟨by simp [e], .inr ⟨w1.heap.size, c, _, rfl, hb, heap_alloc_new w1 _, h1, h2, ?_, ?_⟩⟩
  · simp [Builtin.zeroCells, e]
    omega
  · simp [e]
/-- 'append(a, b...)', both rows the call's own, or nil: what else lies is as it was. -/
theorem wpList_rows {P : Program} {w : World} {ops : Array Oper} {rest : List Oper} {o : Oper} {a : Act} {Q : Exit → Act → World → Prop} (hgd : o.guard = none) (s x : Operand) (t : TypeId)
    (ho : o.op = .call { callee := .builtin .append, args := #[s, x], argTypes := #[t, t] })
    (base : Nat) (e : TypeId) (i : TypeInfo) (z : Value) (size bytes : Nat) (ht : P.underlying t = some (.slice e)) (hi : P.info? e = some i) (hz : i.zero = some z)
    (hsize : i.size = size) (hby : i.bytes = bytes) (hzs : z.cells.size = size) (hsz : 0 < size)
    (v : Value) (n : Nat) (xs : List Value) (hs : a.eval s = v) (hown : w.ownsRow base e size v n xs)
    (xv : Value) (m : Nat) (news : List Value) (hx : a.eval x = xv) (hxo : w.ownsRow base e size xv m news) (h1 : ∀ u ∈ news, u.oneCell' = true)
    (h63 : n + m ≤ maxLen) (hbytes : (n + m) * bytes ≤ 140737488355328) (hbase : base ≤ w.heap.size)
    (h : ∀ v' w', w'.ownsRow base e size v' (n + m) (xs ++ news) → w.grownBy w' v.ownBlock → wpList P ops Q rest (a.put o.dst v') w') :
    wpList P ops Q (o :: rest) a w := by
  rcases hxo.2 with ⟨hxn, hm⟩ | ⟨g, cap, cur, hxs, hbg, hg, hnc, hcm, hcs, htake⟩
  · subst hm
    have hn : news = [] := List.eq_nil_of_length_eq_zero (by simpa using hxo.1)
    subst hn
    refine wpList_append_own_none hgd s x t ho base e i size ht hi v n xs hs hown (by rw [hx, hxn]) ?_
    exact h v w (by simpa using hown) ⟨rfl, rfl, rfl, Nat.le_refl _, fun _ _ _ => rfl⟩
  · refine wpList_append_own (w := w) hgd s x t ho base e i z size bytes ht hi hz hsize hby hzs hsz v n xs hs hown ⟨g, 0, none⟩ m cap news (by rw [hx, hxs]) hxo.1 (hxo.cells (g := g) (by rw [hxs]; rfl)) h1 h63 hbytes hbase ?_
    intro v' w' h2 h3 _
    exact h v' w' h2 h3
set_option maxRecDepth 100000 in
set_option maxHeartbeats 16000000 in
theorem instrWords_0dy (lo hi : Nat) (w : World) (op : Int) (nm : Wd) (sd z : ByteArray) (l : List Arg) (A B2 B3 : Option Addr) (n cap k2 c2 k3 c3 : Nat) (l0 km : Int) (hx : Args lo hi w (.slice A n cap) l) (hn : n = l.length) (hh : hi ≤ w.heap.size) (hcap : n ≤ cap) (hI : ∀ a ∈ l, argI a) (hl : n ≤ 1048576) (hL : LaidS w) (hfo : formV op = (⟨z.data.toList, true, true, l0, km⟩, true)) (ha : aheadV op = 0) (hk : 0 ≤ n) (e0 : sd.toList.isEmpty = false) :
    Calls Tryd.prog 105 #[.agg #[i64 op, .string sd, str nm, .slice A n cap, .slice B2 k2 c2, .slice B3 k3 c3]] w (WordsP w ([sd.data.toList, kEq] ++ (z.data.toList :: ((l.take 0).map putA ++ ([nm] ++ (l.drop 0).map putA))))) := by
  obtain ⟨i0, hi0, hz0, hz1, hz2⟩ := info_parts s_info
  have Hi := Lib.hid hi0
  have Hz0 := Lib.hid hz0
  have Hz1 := Lib.hid hz1
  have Hz2 := Lib.hid hz2
  have QA := Lib.hid (ahead_to op 0 ha)
  have QO := Lib.hid fun w => of_as op z _ _ l0 km true hfo w
  have HL := Lib.hid hL
  have HX := Lib.hid hx
  have HI := Lib.hid hI
  have HN := Lib.hid hn
  have QP1 := Lib.hid fun (w' : World) (hb : Below w.heap.size w w') => puts_any lo hi w' _ (l.take 0) (Args.move (Still.of_below (hb.mono hh)) (args_take hx hk hcap)) (Nat.le_trans hh hb.size) (fun a ha => hI a (List.mem_of_mem_take ha)) (by rw [List.length_take]; omega)
  have QP2 := Lib.hid fun (w' : World) (hb : Below w.heap.size w w') => puts_any lo hi w' _ l (Args.move (Still.of_below (hb.mono hh)) hx) (Nat.le_trans hh hb.size) (fun a ha => hI a ha) (by omega)
  have HM1 : Hid (((l.take 0).map putA).length ≤ 1048576) := Lib.hid (by rw [List.length_map, List.length_take]; omega)
  have HM2 : Hid ((l.map putA).length ≤ 1048576) := Lib.hid (by rw [List.length_map]; omega)
  clear hi0 hz0 hz1 hz2 hfo hL hx hI hn ha
  have HB0 := Lib.hid ((Below.refl w.heap.size w).alloc (Nat.le_refl _) (.cells #[i64 op, .string sd, str nm, .slice A n cap, .slice B2 k2 c2, .slice B3 k3 c3] 72))
  obtain ⟨W1, hW1⟩ : ∃ W1, w.alloc (.cells #[i64 op, .string sd, str nm, .slice A n cap, .slice B2 k2 c2, .slice B3 k3 c3] 72) = W1 := ⟨_, rfl⟩
  have hz1 : W1.heap.size = w.heap.size + 1 := by rw [← hW1]; simp
  have HZ1 := Lib.hid hz1
  have HW1 := Lib.hid hW1
  have HO1 : Hid (Own W1 w.heap.size 72 [i64 op, .string sd, str nm, .slice A n cap, .slice B2 k2 c2, .slice B3 k3 c3]) := Lib.hid (by rw [← hW1]; exact Own.made w 72 [i64 op, .string sd, str nm, .slice A n cap, .slice B2 k2 c2, .slice B3 k3 c3])
  have HB01 : Hid (Below w.heap.size w W1) := Lib.hid (by rw [← hW1]; exact HB0.out)
  clear hz1 hW1
  go_enter Tryd.func105, Tryd.ntmps105
  have HLT := Lib.hid (made_row (base := w.heap.size + 1) (g := w.heap.size + 1) (w := w.alloc (.cells #[i64 op, .string sd, str nm, .slice A n cap, .slice B2 k2 c2, .slice B3 k3 c3] 72)) [.string sd, .string ⟨#[61]⟩] [sd.data.toList, kEq] rfl (by simp) (by simp) (by simp [LinesM.strs, kEq]) (by simp))
  have HB2 : Hid (Below (w.heap.size + 1) W1 ((w.alloc (.cells #[i64 op, .string sd, str nm, .slice A n cap, .slice B2 k2 c2, .slice B3 k3 c3] 72)).alloc (.cells #[.string sd, .string ⟨#[61]⟩] 9))) := Lib.hid (by rw [HW1.out]; exact (Below.refl _ _).alloc (by rw [HZ1.out]; omega) _)
  go_wp2_with fail
  obtain ⟨v3, hv3, HO3⟩ : ∃ v3, Value.slice (some ⟨w.heap.size + 1 + 1, 0, none⟩) 2 ((Question.appendCap 2 0 9).cut (w.tape w.drawn (Question.appendCap 2 0 9))) = v3 ∧ Hid (World.ownsRow ((((w.alloc (.cells #[i64 op, .string sd, str nm, .slice A n cap, .slice B2 k2 c2, .slice B3 k3 c3] 72)).alloc (.cells #[.string sd, .string ⟨#[61]⟩] 9)).alloc (.cells (#[.string sd, .string ⟨#[61]⟩] ++ Builtin.zeroCells #[.string ⟨#[]⟩] ((Question.appendCap 2 0 9).cut (w.tape w.drawn (Question.appendCap 2 0 9)) - 2)) 9)).drew) (w.heap.size + 1) 9 1 v3 2 (LinesM.strs [sd.data.toList, kEq])) := ⟨_, rfl, Lib.hid (fresh_row (q := w) (base := w.heap.size + 1) (g := w.heap.size + 1 + 1) (w1 := ((w.alloc (.cells #[i64 op, .string sd, str nm, .slice A n cap, .slice B2 k2 c2, .slice B3 k3 c3] 72)).alloc (.cells #[.string sd, .string ⟨#[61]⟩] 9))) [.string sd, .string ⟨#[61]⟩] [sd.data.toList, kEq] rfl (by simp [LinesM.strs, kEq]) (by simp) (by simp) (by simp) (by simp) rfl)⟩
  have HB3 := Lib.hid ((HB2.out.alloc (by simp) (.cells (#[.string sd, .string ⟨#[61]⟩] ++ Builtin.zeroCells #[.string ⟨#[]⟩] (grownCap w 2 0 9 - 2)) 9)).drew)
  refine (QO.out _ ((HL.out.below HB01.out (Nat.le_refl _)).below HB3.out (by rw [HZ1.out]; omega))).mono ?_; rintro e w5 ⟨rfl, hb5⟩
  rw [hv3]
  clear hv3
  have HO5 := Lib.hid (World.ownsRow.alloc (LinesM.own_below HO3.out hb5) (.cells #[.string z, .bool true, .bool true, .int .i64 l0, .int .i64 km] 186))
  have HB5 := Lib.hid (HB3.out.trans (hb5.mono (by simp)))
  have hs5 : w.heap.size + 1 ≤ w5.heap.size := by have := hb5.size; simp at this; omega
  have HB6 := Lib.hid (HB5.out.alloc hs5 (.cells #[.string z, .bool true, .bool true, .int .i64 l0, .int .i64 km] 186))
  have HOF := Lib.hid (Own.made w5 186 [.string z, .bool true, .bool true, .int .i64 l0, .int .i64 km])
  have HS5 : Hid (w.heap.size < w5.heap.size) := Lib.hid (by omega)
  clear hb5
  go_wp2_with (first | ((with_reducible refine (QA.out _).mono ?_); rintro e w0 ⟨rfl, rfl⟩) | (at_builtin; refine LinesM.wpList_push_at rfl _ _ 41 rfl (w.heap.size + 1) 9 i0 (.string ⟨#[]⟩) 1 16 Tryd.underlying41 Hi.out Hz0.out Hz1.out Hz2.out rfl (by decide) _ _ _ rfl HO5.out [.string z] (w5.heap.size + 1) (by simp) rfl rfl (by simp [Value.oneCell']) (by have h1 := HM1.out; have h2 := HM2.out; unfold maxLen; omega) (by have h1 := HM1.out; have h2 := HM2.out; omega) (Nat.le_trans (Nat.le_of_eq HZ1.out.symm) HB6.out.size) ?_; intro v7 w7 hown hgn; have HGw7 := Lib.hid hgn; have HO7 := Lib.hid hown; have HB7 := Lib.hid (LinesM.below_grown HB6.out HO5.out hgn (Nat.le_trans (Nat.le_of_eq HZ1.out.symm) HB6.out.size) (Nat.le_refl _)); clear hown hgn; have HOF7 := Lib.hid (keep_f HOF.out (by decide) HO5.out HGw7.out); have g0 := own_hold6 HO1.out HB7.out (Nat.lt_succ_self _) 0 rfl; have g1 := own_hold6 HO1.out HB7.out (Nat.lt_succ_self _) 1 rfl; have g2 := own_hold6 HO1.out HB7.out (Nat.lt_succ_self _) 2 rfl; have g3 := own_hold6 HO1.out HB7.out (Nat.lt_succ_self _) 3 rfl; have g4 := own_hold6 HO1.out HB7.out (Nat.lt_succ_self _) 4 rfl; have g5 := own_hold6 HO1.out HB7.out (Nat.lt_succ_self _) 5 rfl) | ((with_reducible refine (QP1.out _ (HB01.out.trans (HB7.out.mono (Nat.le_succ _)))).mono ?_); rintro e w8 ⟨v8, rfl, ho, hb⟩; have HP8 := Lib.hid (LinesM.own_lower ho (Nat.le_trans (Nat.le_of_eq HZ1.out.symm) HB7.out.size)); have HO8 := Lib.hid (LinesM.own_below HO7.out hb); have HB8 := Lib.hid (HB7.out.trans (hb.mono (Nat.le_trans (Nat.le_of_eq HZ1.out.symm) HB7.out.size))); have HOF8 := Lib.hid (HOF7.out.below hb HOF7.out.lt); clear ho hb) | (at_builtin; refine wpList_rows rfl _ _ 41 rfl (w.heap.size + 1) 9 i0 (.string ⟨#[]⟩) 1 16 Tryd.underlying41 Hi.out Hz0.out Hz1.out Hz2.out rfl (by decide) _ _ _ rfl HO8.out _ _ _ rfl HP8.out (ones_strs _) (by have h1 := HM1.out; have h2 := HM2.out; unfold maxLen; omega) (by have h1 := HM1.out; have h2 := HM2.out; omega) (Nat.le_trans (Nat.le_of_eq HZ1.out.symm) HB8.out.size) ?_; intro v9 w9 hown hgn; have HGw9 := Lib.hid hgn; have HO9 := Lib.hid hown; have HB9 := Lib.hid (LinesM.below_grown HB8.out HO8.out hgn (Nat.le_trans (Nat.le_of_eq HZ1.out.symm) HB8.out.size) (Nat.le_refl _)); clear hown hgn; have HOF9 := keep_f HOF8.out (by decide) HO8.out HGw9.out; have p2 := HOF9.cell 2; simp only [List.getElem?_cons_succ, List.getElem?_cons_zero] at p2; clear HOF9; clear g0 g1 g2 g3 g4 g5; have g0 := own_hold6 HO1.out HB9.out (Nat.lt_succ_self _) 0 rfl; have g1 := own_hold6 HO1.out HB9.out (Nat.lt_succ_self _) 1 rfl; have g2 := own_hold6 HO1.out HB9.out (Nat.lt_succ_self _) 2 rfl; have g3 := own_hold6 HO1.out HB9.out (Nat.lt_succ_self _) 3 rfl; have g4 := own_hold6 HO1.out HB9.out (Nat.lt_succ_self _) 4 rfl; have g5 := own_hold6 HO1.out HB9.out (Nat.lt_succ_self _) 5 rfl) | (at_builtin; refine LinesM.wpList_push_at rfl _ _ 41 rfl (w.heap.size + 1) 9 i0 (.string ⟨#[]⟩) 1 16 Tryd.underlying41 Hi.out Hz0.out Hz1.out Hz2.out rfl (by decide) _ _ _ rfl HO9.out [str nm] (w9.heap.size) (by simp) rfl rfl (by simp [Value.oneCell']) (by have h1 := HM1.out; have h2 := HM2.out; unfold maxLen; omega) (by have h1 := HM1.out; have h2 := HM2.out; omega) (Nat.le_trans (Nat.le_of_eq HZ1.out.symm) HB9.out.size) ?_; intro v11 w11 hown hgn; have HGw11 := Lib.hid hgn; have HO11 := Lib.hid hown; have HB11 := Lib.hid (LinesM.below_grown HB9.out HO9.out hgn (Nat.le_trans (Nat.le_of_eq HZ1.out.symm) HB9.out.size) (Nat.le_refl _)); clear hown hgn; clear p2 g0 g1 g2 g3 g4 g5; have g0 := own_hold6 HO1.out HB11.out (Nat.lt_succ_self _) 0 rfl; have g1 := own_hold6 HO1.out HB11.out (Nat.lt_succ_self _) 1 rfl; have g2 := own_hold6 HO1.out HB11.out (Nat.lt_succ_self _) 2 rfl; have g3 := own_hold6 HO1.out HB11.out (Nat.lt_succ_self _) 3 rfl; have g4 := own_hold6 HO1.out HB11.out (Nat.lt_succ_self _) 4 rfl; have g5 := own_hold6 HO1.out HB11.out (Nat.lt_succ_self _) 5 rfl) | ((with_reducible refine (QP2.out _ (HB01.out.trans (HB11.out.mono (Nat.le_succ _)))).mono ?_); rintro e w12 ⟨v12, rfl, ho, hb⟩; have HP12 := Lib.hid (LinesM.own_lower ho (Nat.le_trans (Nat.le_of_eq HZ1.out.symm) HB11.out.size)); have HO12 := Lib.hid (LinesM.own_below HO11.out hb); have HB12 := Lib.hid (HB11.out.trans (hb.mono (Nat.le_trans (Nat.le_of_eq HZ1.out.symm) HB11.out.size))); clear ho hb) | (at_builtin; refine wpList_rows rfl _ _ 41 rfl (w.heap.size + 1) 9 i0 (.string ⟨#[]⟩) 1 16 Tryd.underlying41 Hi.out Hz0.out Hz1.out Hz2.out rfl (by decide) _ _ _ rfl HO12.out _ _ _ rfl HP12.out (ones_strs _) (by have h1 := HM1.out; have h2 := HM2.out; unfold maxLen; omega) (by have h1 := HM1.out; have h2 := HM2.out; omega) (Nat.le_trans (Nat.le_of_eq HZ1.out.symm) HB12.out.size) ?_; intro v13 w13 hown hgn; have HGw13 := Lib.hid hgn; have HO13 := Lib.hid hown; have HB13 := Lib.hid (LinesM.below_grown HB12.out HO12.out hgn (Nat.le_trans (Nat.le_of_eq HZ1.out.symm) HB12.out.size) (Nat.le_refl _)); clear hown hgn))
  all_goals
    go_ret
    refine ⟨_, rfl, row_eq (LinesM.own_lower HO13.out (Nat.le_succ w.heap.size)) (by simp <;> omega) (by simp [LinesM.strs]), HB01.out.trans (HB13.out.mono (Nat.le_succ _))⟩
set_option maxRecDepth 100000 in
set_option maxHeartbeats 16000000 in
theorem instrWords_0do (lo hi : Nat) (w : World) (op : Int) (nm : Wd) (sd z : ByteArray) (l : List Arg) (A B2 B3 : Option Addr) (n cap k2 c2 k3 c3 : Nat) (l0 km : Int) (hx : Args lo hi w (.slice A n cap) l) (hn : n = l.length) (hh : hi ≤ w.heap.size) (hcap : n ≤ cap) (hI : ∀ a ∈ l, argI a) (hl : n ≤ 1048576) (hL : LaidS w) (hfo : formV op = (⟨z.data.toList, true, false, l0, km⟩, true)) (ha : aheadV op = 0) (hk : 0 ≤ n) (e0 : sd.toList.isEmpty = false) :
    Calls Tryd.prog 105 #[.agg #[i64 op, .string sd, str nm, .slice A n cap, .slice B2 k2 c2, .slice B3 k3 c3]] w (WordsP w ([sd.data.toList, kEq] ++ (z.data.toList :: ((l.take 0).map putA ++ ([] ++ (l.drop 0).map putA))))) := by
  obtain ⟨i0, hi0, hz0, hz1, hz2⟩ := info_parts s_info
  have Hi := Lib.hid hi0
  have Hz0 := Lib.hid hz0
  have Hz1 := Lib.hid hz1
  have Hz2 := Lib.hid hz2
  have QA := Lib.hid (ahead_to op 0 ha)
  have QO := Lib.hid fun w => of_as op z _ _ l0 km true hfo w
  have HL := Lib.hid hL
  have HX := Lib.hid hx
  have HI := Lib.hid hI
  have HN := Lib.hid hn
  have QP1 := Lib.hid fun (w' : World) (hb : Below w.heap.size w w') => puts_any lo hi w' _ (l.take 0) (Args.move (Still.of_below (hb.mono hh)) (args_take hx hk hcap)) (Nat.le_trans hh hb.size) (fun a ha => hI a (List.mem_of_mem_take ha)) (by rw [List.length_take]; omega)
  have QP2 := Lib.hid fun (w' : World) (hb : Below w.heap.size w w') => puts_any lo hi w' _ l (Args.move (Still.of_below (hb.mono hh)) hx) (Nat.le_trans hh hb.size) (fun a ha => hI a ha) (by omega)
  have HM1 : Hid (((l.take 0).map putA).length ≤ 1048576) := Lib.hid (by rw [List.length_map, List.length_take]; omega)
  have HM2 : Hid ((l.map putA).length ≤ 1048576) := Lib.hid (by rw [List.length_map]; omega)
  clear hi0 hz0 hz1 hz2 hfo hL hx hI hn ha
  have HB0 := Lib.hid ((Below.refl w.heap.size w).alloc (Nat.le_refl _) (.cells #[i64 op, .string sd, str nm, .slice A n cap, .slice B2 k2 c2, .slice B3 k3 c3] 72))
  obtain ⟨W1, hW1⟩ : ∃ W1, w.alloc (.cells #[i64 op, .string sd, str nm, .slice A n cap, .slice B2 k2 c2, .slice B3 k3 c3] 72) = W1 := ⟨_, rfl⟩
  have hz1 : W1.heap.size = w.heap.size + 1 := by rw [← hW1]; simp
  have HZ1 := Lib.hid hz1
  have HW1 := Lib.hid hW1
  have HO1 : Hid (Own W1 w.heap.size 72 [i64 op, .string sd, str nm, .slice A n cap, .slice B2 k2 c2, .slice B3 k3 c3]) := Lib.hid (by rw [← hW1]; exact Own.made w 72 [i64 op, .string sd, str nm, .slice A n cap, .slice B2 k2 c2, .slice B3 k3 c3])
  have HB01 : Hid (Below w.heap.size w W1) := Lib.hid (by rw [← hW1]; exact HB0.out)
  clear hz1 hW1
  go_enter Tryd.func105, Tryd.ntmps105
  have HLT := Lib.hid (made_row (base := w.heap.size + 1) (g := w.heap.size + 1) (w := w.alloc (.cells #[i64 op, .string sd, str nm, .slice A n cap, .slice B2 k2 c2, .slice B3 k3 c3] 72)) [.string sd, .string ⟨#[61]⟩] [sd.data.toList, kEq] rfl (by simp) (by simp) (by simp [LinesM.strs, kEq]) (by simp))
  have HB2 : Hid (Below (w.heap.size + 1) W1 ((w.alloc (.cells #[i64 op, .string sd, str nm, .slice A n cap, .slice B2 k2 c2, .slice B3 k3 c3] 72)).alloc (.cells #[.string sd, .string ⟨#[61]⟩] 9))) := Lib.hid (by rw [HW1.out]; exact (Below.refl _ _).alloc (by rw [HZ1.out]; omega) _)
  go_wp2_with fail
  obtain ⟨v3, hv3, HO3⟩ : ∃ v3, Value.slice (some ⟨w.heap.size + 1 + 1, 0, none⟩) 2 ((Question.appendCap 2 0 9).cut (w.tape w.drawn (Question.appendCap 2 0 9))) = v3 ∧ Hid (World.ownsRow ((((w.alloc (.cells #[i64 op, .string sd, str nm, .slice A n cap, .slice B2 k2 c2, .slice B3 k3 c3] 72)).alloc (.cells #[.string sd, .string ⟨#[61]⟩] 9)).alloc (.cells (#[.string sd, .string ⟨#[61]⟩] ++ Builtin.zeroCells #[.string ⟨#[]⟩] ((Question.appendCap 2 0 9).cut (w.tape w.drawn (Question.appendCap 2 0 9)) - 2)) 9)).drew) (w.heap.size + 1) 9 1 v3 2 (LinesM.strs [sd.data.toList, kEq])) := ⟨_, rfl, Lib.hid (fresh_row (q := w) (base := w.heap.size + 1) (g := w.heap.size + 1 + 1) (w1 := ((w.alloc (.cells #[i64 op, .string sd, str nm, .slice A n cap, .slice B2 k2 c2, .slice B3 k3 c3] 72)).alloc (.cells #[.string sd, .string ⟨#[61]⟩] 9))) [.string sd, .string ⟨#[61]⟩] [sd.data.toList, kEq] rfl (by simp [LinesM.strs, kEq]) (by simp) (by simp) (by simp) (by simp) rfl)⟩
  have HB3 := Lib.hid ((HB2.out.alloc (by simp) (.cells (#[.string sd, .string ⟨#[61]⟩] ++ Builtin.zeroCells #[.string ⟨#[]⟩] (grownCap w 2 0 9 - 2)) 9)).drew)
  refine (QO.out _ ((HL.out.below HB01.out (Nat.le_refl _)).below HB3.out (by rw [HZ1.out]; omega))).mono ?_; rintro e w5 ⟨rfl, hb5⟩
  rw [hv3]
  clear hv3
  have HO5 := Lib.hid (World.ownsRow.alloc (LinesM.own_below HO3.out hb5) (.cells #[.string z, .bool true, .bool false, .int .i64 l0, .int .i64 km] 186))
  have HB5 := Lib.hid (HB3.out.trans (hb5.mono (by simp)))
  have hs5 : w.heap.size + 1 ≤ w5.heap.size := by have := hb5.size; simp at this; omega
  have HB6 := Lib.hid (HB5.out.alloc hs5 (.cells #[.string z, .bool true, .bool false, .int .i64 l0, .int .i64 km] 186))
  have HOF := Lib.hid (Own.made w5 186 [.string z, .bool true, .bool false, .int .i64 l0, .int .i64 km])
  have HS5 : Hid (w.heap.size < w5.heap.size) := Lib.hid (by omega)
  clear hb5
  go_wp2_with (first | ((with_reducible refine (QA.out _).mono ?_); rintro e w0 ⟨rfl, rfl⟩) | (at_builtin; refine LinesM.wpList_push_at rfl _ _ 41 rfl (w.heap.size + 1) 9 i0 (.string ⟨#[]⟩) 1 16 Tryd.underlying41 Hi.out Hz0.out Hz1.out Hz2.out rfl (by decide) _ _ _ rfl HO5.out [.string z] (w5.heap.size + 1) (by simp) rfl rfl (by simp [Value.oneCell']) (by have h1 := HM1.out; have h2 := HM2.out; unfold maxLen; omega) (by have h1 := HM1.out; have h2 := HM2.out; omega) (Nat.le_trans (Nat.le_of_eq HZ1.out.symm) HB6.out.size) ?_; intro v7 w7 hown hgn; have HGw7 := Lib.hid hgn; have HO7 := Lib.hid hown; have HB7 := Lib.hid (LinesM.below_grown HB6.out HO5.out hgn (Nat.le_trans (Nat.le_of_eq HZ1.out.symm) HB6.out.size) (Nat.le_refl _)); clear hown hgn; have HOF7 := Lib.hid (keep_f HOF.out (by decide) HO5.out HGw7.out); have g0 := own_hold6 HO1.out HB7.out (Nat.lt_succ_self _) 0 rfl; have g1 := own_hold6 HO1.out HB7.out (Nat.lt_succ_self _) 1 rfl; have g2 := own_hold6 HO1.out HB7.out (Nat.lt_succ_self _) 2 rfl; have g3 := own_hold6 HO1.out HB7.out (Nat.lt_succ_self _) 3 rfl; have g4 := own_hold6 HO1.out HB7.out (Nat.lt_succ_self _) 4 rfl; have g5 := own_hold6 HO1.out HB7.out (Nat.lt_succ_self _) 5 rfl) | ((with_reducible refine (QP1.out _ (HB01.out.trans (HB7.out.mono (Nat.le_succ _)))).mono ?_); rintro e w8 ⟨v8, rfl, ho, hb⟩; have HP8 := Lib.hid (LinesM.own_lower ho (Nat.le_trans (Nat.le_of_eq HZ1.out.symm) HB7.out.size)); have HO8 := Lib.hid (LinesM.own_below HO7.out hb); have HB8 := Lib.hid (HB7.out.trans (hb.mono (Nat.le_trans (Nat.le_of_eq HZ1.out.symm) HB7.out.size))); have HOF8 := Lib.hid (HOF7.out.below hb HOF7.out.lt); clear ho hb) | (at_builtin; refine wpList_rows rfl _ _ 41 rfl (w.heap.size + 1) 9 i0 (.string ⟨#[]⟩) 1 16 Tryd.underlying41 Hi.out Hz0.out Hz1.out Hz2.out rfl (by decide) _ _ _ rfl HO8.out _ _ _ rfl HP8.out (ones_strs _) (by have h1 := HM1.out; have h2 := HM2.out; unfold maxLen; omega) (by have h1 := HM1.out; have h2 := HM2.out; omega) (Nat.le_trans (Nat.le_of_eq HZ1.out.symm) HB8.out.size) ?_; intro v9 w9 hown hgn; have HGw9 := Lib.hid hgn; have HO9 := Lib.hid hown; have HB9 := Lib.hid (LinesM.below_grown HB8.out HO8.out hgn (Nat.le_trans (Nat.le_of_eq HZ1.out.symm) HB8.out.size) (Nat.le_refl _)); clear hown hgn; have HOF9 := keep_f HOF8.out (by decide) HO8.out HGw9.out; have p2 := HOF9.cell 2; simp only [List.getElem?_cons_succ, List.getElem?_cons_zero] at p2; clear HOF9; clear g0 g1 g2 g3 g4 g5; have g0 := own_hold6 HO1.out HB9.out (Nat.lt_succ_self _) 0 rfl; have g1 := own_hold6 HO1.out HB9.out (Nat.lt_succ_self _) 1 rfl; have g2 := own_hold6 HO1.out HB9.out (Nat.lt_succ_self _) 2 rfl; have g3 := own_hold6 HO1.out HB9.out (Nat.lt_succ_self _) 3 rfl; have g4 := own_hold6 HO1.out HB9.out (Nat.lt_succ_self _) 4 rfl; have g5 := own_hold6 HO1.out HB9.out (Nat.lt_succ_self _) 5 rfl) | ((with_reducible refine (QP2.out _ (HB01.out.trans (HB9.out.mono (Nat.le_succ _)))).mono ?_); rintro e w12 ⟨v12, rfl, ho, hb⟩; have HP12 := Lib.hid (LinesM.own_lower ho (Nat.le_trans (Nat.le_of_eq HZ1.out.symm) HB9.out.size)); have HO12 := Lib.hid (LinesM.own_below HO9.out hb); have HB12 := Lib.hid (HB9.out.trans (hb.mono (Nat.le_trans (Nat.le_of_eq HZ1.out.symm) HB9.out.size))); clear ho hb) | (at_builtin; refine wpList_rows rfl _ _ 41 rfl (w.heap.size + 1) 9 i0 (.string ⟨#[]⟩) 1 16 Tryd.underlying41 Hi.out Hz0.out Hz1.out Hz2.out rfl (by decide) _ _ _ rfl HO12.out _ _ _ rfl HP12.out (ones_strs _) (by have h1 := HM1.out; have h2 := HM2.out; unfold maxLen; omega) (by have h1 := HM1.out; have h2 := HM2.out; omega) (Nat.le_trans (Nat.le_of_eq HZ1.out.symm) HB12.out.size) ?_; intro v13 w13 hown hgn; have HGw13 := Lib.hid hgn; have HO13 := Lib.hid hown; have HB13 := Lib.hid (LinesM.below_grown HB12.out HO12.out hgn (Nat.le_trans (Nat.le_of_eq HZ1.out.symm) HB12.out.size) (Nat.le_refl _)); clear hown hgn))
  all_goals
    go_ret
    refine ⟨_, rfl, row_eq (LinesM.own_lower HO13.out (Nat.le_succ w.heap.size)) (by simp <;> omega) (by simp [LinesM.strs]), HB01.out.trans (HB13.out.mono (Nat.le_succ _))⟩
set_option maxRecDepth 100000 in
set_option maxHeartbeats 16000000 in
theorem instrWords_0ny (lo hi : Nat) (w : World) (op : Int) (nm : Wd) (sd z : ByteArray) (l : List Arg) (A B2 B3 : Option Addr) (n cap k2 c2 k3 c3 : Nat) (l0 km : Int) (hx : Args lo hi w (.slice A n cap) l) (hn : n = l.length) (hh : hi ≤ w.heap.size) (hcap : n ≤ cap) (hI : ∀ a ∈ l, argI a) (hl : n ≤ 1048576) (hL : LaidS w) (hfo : formV op = (⟨z.data.toList, false, true, l0, km⟩, true)) (ha : aheadV op = 0) (hk : 0 ≤ n) (e0 : sd.toList.isEmpty = true) :
    Calls Tryd.prog 105 #[.agg #[i64 op, .string sd, str nm, .slice A n cap, .slice B2 k2 c2, .slice B3 k3 c3]] w (WordsP w ((z.data.toList :: ((l.take 0).map putA ++ ([nm] ++ (l.drop 0).map putA))))) := by
  obtain ⟨i0, hi0, hz0, hz1, hz2⟩ := info_parts s_info
  have Hi := Lib.hid hi0
  have Hz0 := Lib.hid hz0
  have Hz1 := Lib.hid hz1
  have Hz2 := Lib.hid hz2
  have QA := Lib.hid (ahead_to op 0 ha)
  have QO := Lib.hid fun w => of_as op z _ _ l0 km true hfo w
  have HL := Lib.hid hL
  have HX := Lib.hid hx
  have HI := Lib.hid hI
  have HN := Lib.hid hn
  have QP1 := Lib.hid fun (w' : World) (hb : Below w.heap.size w w') => puts_any lo hi w' _ (l.take 0) (Args.move (Still.of_below (hb.mono hh)) (args_take hx hk hcap)) (Nat.le_trans hh hb.size) (fun a ha => hI a (List.mem_of_mem_take ha)) (by rw [List.length_take]; omega)
  have QP2 := Lib.hid fun (w' : World) (hb : Below w.heap.size w w') => puts_any lo hi w' _ l (Args.move (Still.of_below (hb.mono hh)) hx) (Nat.le_trans hh hb.size) (fun a ha => hI a ha) (by omega)
  have HM1 : Hid (((l.take 0).map putA).length ≤ 1048576) := Lib.hid (by rw [List.length_map, List.length_take]; omega)
  have HM2 : Hid ((l.map putA).length ≤ 1048576) := Lib.hid (by rw [List.length_map]; omega)
  clear hi0 hz0 hz1 hz2 hfo hL hx hI hn ha
  have HB0 := Lib.hid ((Below.refl w.heap.size w).alloc (Nat.le_refl _) (.cells #[i64 op, .string sd, str nm, .slice A n cap, .slice B2 k2 c2, .slice B3 k3 c3] 72))
  obtain ⟨W1, hW1⟩ : ∃ W1, w.alloc (.cells #[i64 op, .string sd, str nm, .slice A n cap, .slice B2 k2 c2, .slice B3 k3 c3] 72) = W1 := ⟨_, rfl⟩
  have hz1 : W1.heap.size = w.heap.size + 1 := by rw [← hW1]; simp
  have HZ1 := Lib.hid hz1
  have HW1 := Lib.hid hW1
  have HO1 : Hid (Own W1 w.heap.size 72 [i64 op, .string sd, str nm, .slice A n cap, .slice B2 k2 c2, .slice B3 k3 c3]) := Lib.hid (by rw [← hW1]; exact Own.made w 72 [i64 op, .string sd, str nm, .slice A n cap, .slice B2 k2 c2, .slice B3 k3 c3])
  have HB01 : Hid (Below w.heap.size w W1) := Lib.hid (by rw [← hW1]; exact HB0.out)
  clear hz1 hW1
  go_enter Tryd.func105, Tryd.ntmps105
  go_wp2_with fail
  rw [HW1.out]
  refine (QO.out _ (HL.out.below HB01.out (Nat.le_refl _))).mono ?_; rintro e w5 ⟨rfl, hb5⟩
  obtain ⟨v3, hv3, HO5⟩ : ∃ v3, Value.slice none 0 0 = v3 ∧ Hid (World.ownsRow (w5.alloc (.cells #[.string z, .bool false, .bool true, .int .i64 l0, .int .i64 km] 186)) (w.heap.size + 1) 9 1 v3 0 []) := ⟨_, rfl, Lib.hid (World.ownsRow_nil _ _ _ _)⟩
  rw [hv3]
  clear hv3
  have HB5 : Hid (Below (w.heap.size + 1) W1 w5) := Lib.hid (hb5.mono (by rw [HZ1.out]; omega))
  have hs5 : w.heap.size + 1 ≤ w5.heap.size := by have := hb5.size; rw [HZ1.out] at this; omega
  have HB6 := Lib.hid (HB5.out.alloc hs5 (.cells #[.string z, .bool false, .bool true, .int .i64 l0, .int .i64 km] 186))
  have HOF := Lib.hid (Own.made w5 186 [.string z, .bool false, .bool true, .int .i64 l0, .int .i64 km])
  have HS5 : Hid (w.heap.size < w5.heap.size) := Lib.hid (by omega)
  clear hb5
  go_wp2_with (first | ((with_reducible refine (QA.out _).mono ?_); rintro e w0 ⟨rfl, rfl⟩) | (at_builtin; refine LinesM.wpList_push_at rfl _ _ 41 rfl (w.heap.size + 1) 9 i0 (.string ⟨#[]⟩) 1 16 Tryd.underlying41 Hi.out Hz0.out Hz1.out Hz2.out rfl (by decide) _ _ _ rfl HO5.out [.string z] (w5.heap.size + 1) (by simp) rfl rfl (by simp [Value.oneCell']) (by have h1 := HM1.out; have h2 := HM2.out; unfold maxLen; omega) (by have h1 := HM1.out; have h2 := HM2.out; omega) (Nat.le_trans (Nat.le_of_eq HZ1.out.symm) HB6.out.size) ?_; intro v7 w7 hown hgn; have HGw7 := Lib.hid hgn; have HO7 := Lib.hid hown; have HB7 := Lib.hid (LinesM.below_grown HB6.out HO5.out hgn (Nat.le_trans (Nat.le_of_eq HZ1.out.symm) HB6.out.size) (Nat.le_refl _)); clear hown hgn; have HOF7 := Lib.hid (keep_f HOF.out (by decide) HO5.out HGw7.out); have g0 := own_hold6 HO1.out HB7.out (Nat.lt_succ_self _) 0 rfl; have g1 := own_hold6 HO1.out HB7.out (Nat.lt_succ_self _) 1 rfl; have g2 := own_hold6 HO1.out HB7.out (Nat.lt_succ_self _) 2 rfl; have g3 := own_hold6 HO1.out HB7.out (Nat.lt_succ_self _) 3 rfl; have g4 := own_hold6 HO1.out HB7.out (Nat.lt_succ_self _) 4 rfl; have g5 := own_hold6 HO1.out HB7.out (Nat.lt_succ_self _) 5 rfl) | ((with_reducible refine (QP1.out _ (HB01.out.trans (HB7.out.mono (Nat.le_succ _)))).mono ?_); rintro e w8 ⟨v8, rfl, ho, hb⟩; have HP8 := Lib.hid (LinesM.own_lower ho (Nat.le_trans (Nat.le_of_eq HZ1.out.symm) HB7.out.size)); have HO8 := Lib.hid (LinesM.own_below HO7.out hb); have HB8 := Lib.hid (HB7.out.trans (hb.mono (Nat.le_trans (Nat.le_of_eq HZ1.out.symm) HB7.out.size))); have HOF8 := Lib.hid (HOF7.out.below hb HOF7.out.lt); clear ho hb) | (at_builtin; refine wpList_rows rfl _ _ 41 rfl (w.heap.size + 1) 9 i0 (.string ⟨#[]⟩) 1 16 Tryd.underlying41 Hi.out Hz0.out Hz1.out Hz2.out rfl (by decide) _ _ _ rfl HO8.out _ _ _ rfl HP8.out (ones_strs _) (by have h1 := HM1.out; have h2 := HM2.out; unfold maxLen; omega) (by have h1 := HM1.out; have h2 := HM2.out; omega) (Nat.le_trans (Nat.le_of_eq HZ1.out.symm) HB8.out.size) ?_; intro v9 w9 hown hgn; have HGw9 := Lib.hid hgn; have HO9 := Lib.hid hown; have HB9 := Lib.hid (LinesM.below_grown HB8.out HO8.out hgn (Nat.le_trans (Nat.le_of_eq HZ1.out.symm) HB8.out.size) (Nat.le_refl _)); clear hown hgn; have HOF9 := keep_f HOF8.out (by decide) HO8.out HGw9.out; have p2 := HOF9.cell 2; simp only [List.getElem?_cons_succ, List.getElem?_cons_zero] at p2; clear HOF9; clear g0 g1 g2 g3 g4 g5; have g0 := own_hold6 HO1.out HB9.out (Nat.lt_succ_self _) 0 rfl; have g1 := own_hold6 HO1.out HB9.out (Nat.lt_succ_self _) 1 rfl; have g2 := own_hold6 HO1.out HB9.out (Nat.lt_succ_self _) 2 rfl; have g3 := own_hold6 HO1.out HB9.out (Nat.lt_succ_self _) 3 rfl; have g4 := own_hold6 HO1.out HB9.out (Nat.lt_succ_self _) 4 rfl; have g5 := own_hold6 HO1.out HB9.out (Nat.lt_succ_self _) 5 rfl) | (at_builtin; refine LinesM.wpList_push_at rfl _ _ 41 rfl (w.heap.size + 1) 9 i0 (.string ⟨#[]⟩) 1 16 Tryd.underlying41 Hi.out Hz0.out Hz1.out Hz2.out rfl (by decide) _ _ _ rfl HO9.out [str nm] (w9.heap.size) (by simp) rfl rfl (by simp [Value.oneCell']) (by have h1 := HM1.out; have h2 := HM2.out; unfold maxLen; omega) (by have h1 := HM1.out; have h2 := HM2.out; omega) (Nat.le_trans (Nat.le_of_eq HZ1.out.symm) HB9.out.size) ?_; intro v11 w11 hown hgn; have HGw11 := Lib.hid hgn; have HO11 := Lib.hid hown; have HB11 := Lib.hid (LinesM.below_grown HB9.out HO9.out hgn (Nat.le_trans (Nat.le_of_eq HZ1.out.symm) HB9.out.size) (Nat.le_refl _)); clear hown hgn; clear p2 g0 g1 g2 g3 g4 g5; have g0 := own_hold6 HO1.out HB11.out (Nat.lt_succ_self _) 0 rfl; have g1 := own_hold6 HO1.out HB11.out (Nat.lt_succ_self _) 1 rfl; have g2 := own_hold6 HO1.out HB11.out (Nat.lt_succ_self _) 2 rfl; have g3 := own_hold6 HO1.out HB11.out (Nat.lt_succ_self _) 3 rfl; have g4 := own_hold6 HO1.out HB11.out (Nat.lt_succ_self _) 4 rfl; have g5 := own_hold6 HO1.out HB11.out (Nat.lt_succ_self _) 5 rfl) | ((with_reducible refine (QP2.out _ (HB01.out.trans (HB11.out.mono (Nat.le_succ _)))).mono ?_); rintro e w12 ⟨v12, rfl, ho, hb⟩; have HP12 := Lib.hid (LinesM.own_lower ho (Nat.le_trans (Nat.le_of_eq HZ1.out.symm) HB11.out.size)); have HO12 := Lib.hid (LinesM.own_below HO11.out hb); have HB12 := Lib.hid (HB11.out.trans (hb.mono (Nat.le_trans (Nat.le_of_eq HZ1.out.symm) HB11.out.size))); clear ho hb) | (at_builtin; refine wpList_rows rfl _ _ 41 rfl (w.heap.size + 1) 9 i0 (.string ⟨#[]⟩) 1 16 Tryd.underlying41 Hi.out Hz0.out Hz1.out Hz2.out rfl (by decide) _ _ _ rfl HO12.out _ _ _ rfl HP12.out (ones_strs _) (by have h1 := HM1.out; have h2 := HM2.out; unfold maxLen; omega) (by have h1 := HM1.out; have h2 := HM2.out; omega) (Nat.le_trans (Nat.le_of_eq HZ1.out.symm) HB12.out.size) ?_; intro v13 w13 hown hgn; have HGw13 := Lib.hid hgn; have HO13 := Lib.hid hown; have HB13 := Lib.hid (LinesM.below_grown HB12.out HO12.out hgn (Nat.le_trans (Nat.le_of_eq HZ1.out.symm) HB12.out.size) (Nat.le_refl _)); clear hown hgn))
  all_goals
    go_ret
    refine ⟨_, rfl, row_eq (LinesM.own_lower HO13.out (Nat.le_succ w.heap.size)) (by simp <;> omega) (by simp [LinesM.strs]), HB01.out.trans (HB13.out.mono (Nat.le_succ _))⟩
set_option maxRecDepth 100000 in
set_option maxHeartbeats 16000000 in
theorem instrWords_0no (lo hi : Nat) (w : World) (op : Int) (nm : Wd) (sd z : ByteArray) (l : List Arg) (A B2 B3 : Option Addr) (n cap k2 c2 k3 c3 : Nat) (l0 km : Int) (hx : Args lo hi w (.slice A n cap) l) (hn : n = l.length) (hh : hi ≤ w.heap.size) (hcap : n ≤ cap) (hI : ∀ a ∈ l, argI a) (hl : n ≤ 1048576) (hL : LaidS w) (hfo : formV op = (⟨z.data.toList, false, false, l0, km⟩, true)) (ha : aheadV op = 0) (hk : 0 ≤ n) (e0 : sd.toList.isEmpty = true) :
    Calls Tryd.prog 105 #[.agg #[i64 op, .string sd, str nm, .slice A n cap, .slice B2 k2 c2, .slice B3 k3 c3]] w (WordsP w ((z.data.toList :: ((l.take 0).map putA ++ ([] ++ (l.drop 0).map putA))))) := by
  obtain ⟨i0, hi0, hz0, hz1, hz2⟩ := info_parts s_info
  have Hi := Lib.hid hi0
  have Hz0 := Lib.hid hz0
  have Hz1 := Lib.hid hz1
  have Hz2 := Lib.hid hz2
  have QA := Lib.hid (ahead_to op 0 ha)
  have QO := Lib.hid fun w => of_as op z _ _ l0 km true hfo w
  have HL := Lib.hid hL
  have HX := Lib.hid hx
  have HI := Lib.hid hI
  have HN := Lib.hid hn
  have QP1 := Lib.hid fun (w' : World) (hb : Below w.heap.size w w') => puts_any lo hi w' _ (l.take 0) (Args.move (Still.of_below (hb.mono hh)) (args_take hx hk hcap)) (Nat.le_trans hh hb.size) (fun a ha => hI a (List.mem_of_mem_take ha)) (by rw [List.length_take]; omega)
  have QP2 := Lib.hid fun (w' : World) (hb : Below w.heap.size w w') => puts_any lo hi w' _ l (Args.move (Still.of_below (hb.mono hh)) hx) (Nat.le_trans hh hb.size) (fun a ha => hI a ha) (by omega)
  have HM1 : Hid (((l.take 0).map putA).length ≤ 1048576) := Lib.hid (by rw [List.length_map, List.length_take]; omega)
  have HM2 : Hid ((l.map putA).length ≤ 1048576) := Lib.hid (by rw [List.length_map]; omega)
  clear hi0 hz0 hz1 hz2 hfo hL hx hI hn ha
  have HB0 := Lib.hid ((Below.refl w.heap.size w).alloc (Nat.le_refl _) (.cells #[i64 op, .string sd, str nm, .slice A n cap, .slice B2 k2 c2, .slice B3 k3 c3] 72))
  obtain ⟨W1, hW1⟩ : ∃ W1, w.alloc (.cells #[i64 op, .string sd, str nm, .slice A n cap, .slice B2 k2 c2, .slice B3 k3 c3] 72) = W1 := ⟨_, rfl⟩
  have hz1 : W1.heap.size = w.heap.size + 1 := by rw [← hW1]; simp
  have HZ1 := Lib.hid hz1
  have HW1 := Lib.hid hW1
  have HO1 : Hid (Own W1 w.heap.size 72 [i64 op, .string sd, str nm, .slice A n cap, .slice B2 k2 c2, .slice B3 k3 c3]) := Lib.hid (by rw [← hW1]; exact Own.made w 72 [i64 op, .string sd, str nm, .slice A n cap, .slice B2 k2 c2, .slice B3 k3 c3])
  have HB01 : Hid (Below w.heap.size w W1) := Lib.hid (by rw [← hW1]; exact HB0.out)
  clear hz1 hW1
  go_enter Tryd.func105, Tryd.ntmps105
  go_wp2_with fail
  rw [HW1.out]
  refine (QO.out _ (HL.out.below HB01.out (Nat.le_refl _))).mono ?_; rintro e w5 ⟨rfl, hb5⟩
  obtain ⟨v3, hv3, HO5⟩ : ∃ v3, Value.slice none 0 0 = v3 ∧ Hid (World.ownsRow (w5.alloc (.cells #[.string z, .bool false, .bool false, .int .i64 l0, .int .i64 km] 186)) (w.heap.size + 1) 9 1 v3 0 []) := ⟨_, rfl, Lib.hid (World.ownsRow_nil _ _ _ _)⟩
  rw [hv3]
  clear hv3
  have HB5 : Hid (Below (w.heap.size + 1) W1 w5) := Lib.hid (hb5.mono (by rw [HZ1.out]; omega))
  have hs5 : w.heap.size + 1 ≤ w5.heap.size := by have := hb5.size; rw [HZ1.out] at this; omega
  have HB6 := Lib.hid (HB5.out.alloc hs5 (.cells #[.string z, .bool false, .bool false, .int .i64 l0, .int .i64 km] 186))
  have HOF := Lib.hid (Own.made w5 186 [.string z, .bool false, .bool false, .int .i64 l0, .int .i64 km])
  have HS5 : Hid (w.heap.size < w5.heap.size) := Lib.hid (by omega)
  clear hb5
  go_wp2_with (first | ((with_reducible refine (QA.out _).mono ?_); rintro e w0 ⟨rfl, rfl⟩) | (at_builtin; refine LinesM.wpList_push_at rfl _ _ 41 rfl (w.heap.size + 1) 9 i0 (.string ⟨#[]⟩) 1 16 Tryd.underlying41 Hi.out Hz0.out Hz1.out Hz2.out rfl (by decide) _ _ _ rfl HO5.out [.string z] (w5.heap.size + 1) (by simp) rfl rfl (by simp [Value.oneCell']) (by have h1 := HM1.out; have h2 := HM2.out; unfold maxLen; omega) (by have h1 := HM1.out; have h2 := HM2.out; omega) (Nat.le_trans (Nat.le_of_eq HZ1.out.symm) HB6.out.size) ?_; intro v7 w7 hown hgn; have HGw7 := Lib.hid hgn; have HO7 := Lib.hid hown; have HB7 := Lib.hid (LinesM.below_grown HB6.out HO5.out hgn (Nat.le_trans (Nat.le_of_eq HZ1.out.symm) HB6.out.size) (Nat.le_refl _)); clear hown hgn; have HOF7 := Lib.hid (keep_f HOF.out (by decide) HO5.out HGw7.out); have g0 := own_hold6 HO1.out HB7.out (Nat.lt_succ_self _) 0 rfl; have g1 := own_hold6 HO1.out HB7.out (Nat.lt_succ_self _) 1 rfl; have g2 := own_hold6 HO1.out HB7.out (Nat.lt_succ_self _) 2 rfl; have g3 := own_hold6 HO1.out HB7.out (Nat.lt_succ_self _) 3 rfl; have g4 := own_hold6 HO1.out HB7.out (Nat.lt_succ_self _) 4 rfl; have g5 := own_hold6 HO1.out HB7.out (Nat.lt_succ_self _) 5 rfl) | ((with_reducible refine (QP1.out _ (HB01.out.trans (HB7.out.mono (Nat.le_succ _)))).mono ?_); rintro e w8 ⟨v8, rfl, ho, hb⟩; have HP8 := Lib.hid (LinesM.own_lower ho (Nat.le_trans (Nat.le_of_eq HZ1.out.symm) HB7.out.size)); have HO8 := Lib.hid (LinesM.own_below HO7.out hb); have HB8 := Lib.hid (HB7.out.trans (hb.mono (Nat.le_trans (Nat.le_of_eq HZ1.out.symm) HB7.out.size))); have HOF8 := Lib.hid (HOF7.out.below hb HOF7.out.lt); clear ho hb) | (at_builtin; refine wpList_rows rfl _ _ 41 rfl (w.heap.size + 1) 9 i0 (.string ⟨#[]⟩) 1 16 Tryd.underlying41 Hi.out Hz0.out Hz1.out Hz2.out rfl (by decide) _ _ _ rfl HO8.out _ _ _ rfl HP8.out (ones_strs _) (by have h1 := HM1.out; have h2 := HM2.out; unfold maxLen; omega) (by have h1 := HM1.out; have h2 := HM2.out; omega) (Nat.le_trans (Nat.le_of_eq HZ1.out.symm) HB8.out.size) ?_; intro v9 w9 hown hgn; have HGw9 := Lib.hid hgn; have HO9 := Lib.hid hown; have HB9 := Lib.hid (LinesM.below_grown HB8.out HO8.out hgn (Nat.le_trans (Nat.le_of_eq HZ1.out.symm) HB8.out.size) (Nat.le_refl _)); clear hown hgn; have HOF9 := keep_f HOF8.out (by decide) HO8.out HGw9.out; have p2 := HOF9.cell 2; simp only [List.getElem?_cons_succ, List.getElem?_cons_zero] at p2; clear HOF9; clear g0 g1 g2 g3 g4 g5; have g0 := own_hold6 HO1.out HB9.out (Nat.lt_succ_self _) 0 rfl; have g1 := own_hold6 HO1.out HB9.out (Nat.lt_succ_self _) 1 rfl; have g2 := own_hold6 HO1.out HB9.out (Nat.lt_succ_self _) 2 rfl; have g3 := own_hold6 HO1.out HB9.out (Nat.lt_succ_self _) 3 rfl; have g4 := own_hold6 HO1.out HB9.out (Nat.lt_succ_self _) 4 rfl; have g5 := own_hold6 HO1.out HB9.out (Nat.lt_succ_self _) 5 rfl) | ((with_reducible refine (QP2.out _ (HB01.out.trans (HB9.out.mono (Nat.le_succ _)))).mono ?_); rintro e w12 ⟨v12, rfl, ho, hb⟩; have HP12 := Lib.hid (LinesM.own_lower ho (Nat.le_trans (Nat.le_of_eq HZ1.out.symm) HB9.out.size)); have HO12 := Lib.hid (LinesM.own_below HO9.out hb); have HB12 := Lib.hid (HB9.out.trans (hb.mono (Nat.le_trans (Nat.le_of_eq HZ1.out.symm) HB9.out.size))); clear ho hb) | (at_builtin; refine wpList_rows rfl _ _ 41 rfl (w.heap.size + 1) 9 i0 (.string ⟨#[]⟩) 1 16 Tryd.underlying41 Hi.out Hz0.out Hz1.out Hz2.out rfl (by decide) _ _ _ rfl HO12.out _ _ _ rfl HP12.out (ones_strs _) (by have h1 := HM1.out; have h2 := HM2.out; unfold maxLen; omega) (by have h1 := HM1.out; have h2 := HM2.out; omega) (Nat.le_trans (Nat.le_of_eq HZ1.out.symm) HB12.out.size) ?_; intro v13 w13 hown hgn; have HGw13 := Lib.hid hgn; have HO13 := Lib.hid hown; have HB13 := Lib.hid (LinesM.below_grown HB12.out HO12.out hgn (Nat.le_trans (Nat.le_of_eq HZ1.out.symm) HB12.out.size) (Nat.le_refl _)); clear hown hgn))
  all_goals
    go_ret
    refine ⟨_, rfl, row_eq (LinesM.own_lower HO13.out (Nat.le_succ w.heap.size)) (by simp <;> omega) (by simp [LinesM.strs]), HB01.out.trans (HB13.out.mono (Nat.le_succ _))⟩
set_option maxRecDepth 100000 in
set_option maxHeartbeats 16000000 in
theorem instrWords_1dy (lo hi : Nat) (w : World) (op : Int) (nm : Wd) (sd z : ByteArray) (l : List Arg) (ab ao : Nat) (B2 B3 : Option Addr) (n cap k2 c2 k3 c3 : Nat) (l0 km : Int) (hx : Args lo hi w (.slice (some ⟨ab, ao, none⟩) n cap) l) (hn : n = l.length) (hh : hi ≤ w.heap.size) (hcap : n ≤ cap) (hI : ∀ a ∈ l, argI a) (hl : n ≤ 1048576) (hL : LaidS w) (hfo : formV op = (⟨z.data.toList, true, true, l0, km⟩, true)) (ha : aheadV op = 1) (hk : 1 ≤ n) (e0 : sd.toList.isEmpty = false) :
    Calls Tryd.prog 105 #[.agg #[i64 op, .string sd, str nm, .slice (some ⟨ab, ao, none⟩) n cap, .slice B2 k2 c2, .slice B3 k3 c3]] w (WordsP w ([sd.data.toList, kEq] ++ (z.data.toList :: ((l.take 1).map putA ++ ([nm] ++ (l.drop 1).map putA))))) := by
  obtain ⟨i0, hi0, hz0, hz1, hz2⟩ := info_parts s_info
  have Hi := Lib.hid hi0
  have Hz0 := Lib.hid hz0
  have Hz1 := Lib.hid hz1
  have Hz2 := Lib.hid hz2
  have QA := Lib.hid (ahead_to op 1 ha)
  have QO := Lib.hid fun w => of_as op z _ _ l0 km true hfo w
  have HL := Lib.hid hL
  have HX := Lib.hid hx
  have HI := Lib.hid hI
  have HN := Lib.hid hn
  have QP1 := Lib.hid fun (w' : World) (hb : Below w.heap.size w w') => puts_any lo hi w' _ (l.take 1) (Args.move (Still.of_below (hb.mono hh)) (args_take hx hk hcap)) (Nat.le_trans hh hb.size) (fun a ha => hI a (List.mem_of_mem_take ha)) (by rw [List.length_take]; omega)
  have QP2 := Lib.hid fun (w' : World) (hb : Below w.heap.size w w') => puts_any lo hi w' _ (l.drop 1) (Args.move (Still.of_below (hb.mono hh)) (args_drop (c := cap - 1) hx hk hk (by omega))) (Nat.le_trans hh hb.size) (fun a ha => hI a (List.mem_of_mem_drop ha)) (by rw [List.length_drop]; omega)
  have QP3 := Lib.hid fun (w' : World) (hc : cap - 1 = 0) (hb : Below w.heap.size w w') => puts_any lo hi w' _ (l.drop 1) (Args.move (Still.of_below (hb.mono hh)) (args_end (A2 := some ⟨ab, ao, none⟩) hx hc hk hcap)) (Nat.le_trans hh hb.size) (fun a ha => hI a (List.mem_of_mem_drop ha)) (by rw [List.length_drop]; omega)
  have HM1 : Hid (((l.take 1).map putA).length ≤ 1048576) := Lib.hid (by rw [List.length_map, List.length_take]; omega)
  have HM2 : Hid (((l.drop 1).map putA).length ≤ 1048576) := Lib.hid (by rw [List.length_map]; rw [List.length_drop]; omega)
  clear hi0 hz0 hz1 hz2 hfo hL hx hI hn ha
  have HB0 := Lib.hid ((Below.refl w.heap.size w).alloc (Nat.le_refl _) (.cells #[i64 op, .string sd, str nm, .slice (some ⟨ab, ao, none⟩) n cap, .slice B2 k2 c2, .slice B3 k3 c3] 72))
  obtain ⟨W1, hW1⟩ : ∃ W1, w.alloc (.cells #[i64 op, .string sd, str nm, .slice (some ⟨ab, ao, none⟩) n cap, .slice B2 k2 c2, .slice B3 k3 c3] 72) = W1 := ⟨_, rfl⟩
  have hz1 : W1.heap.size = w.heap.size + 1 := by rw [← hW1]; simp
  have HZ1 := Lib.hid hz1
  have HW1 := Lib.hid hW1
  have HO1 : Hid (Own W1 w.heap.size 72 [i64 op, .string sd, str nm, .slice (some ⟨ab, ao, none⟩) n cap, .slice B2 k2 c2, .slice B3 k3 c3]) := Lib.hid (by rw [← hW1]; exact Own.made w 72 [i64 op, .string sd, str nm, .slice (some ⟨ab, ao, none⟩) n cap, .slice B2 k2 c2, .slice B3 k3 c3])
  have HB01 : Hid (Below w.heap.size w W1) := Lib.hid (by rw [← hW1]; exact HB0.out)
  clear hz1 hW1
  go_enter Tryd.func105, Tryd.ntmps105
  have HLT := Lib.hid (made_row (base := w.heap.size + 1) (g := w.heap.size + 1) (w := w.alloc (.cells #[i64 op, .string sd, str nm, .slice (some ⟨ab, ao, none⟩) n cap, .slice B2 k2 c2, .slice B3 k3 c3] 72)) [.string sd, .string ⟨#[61]⟩] [sd.data.toList, kEq] rfl (by simp) (by simp) (by simp [LinesM.strs, kEq]) (by simp))
  have HB2 : Hid (Below (w.heap.size + 1) W1 ((w.alloc (.cells #[i64 op, .string sd, str nm, .slice (some ⟨ab, ao, none⟩) n cap, .slice B2 k2 c2, .slice B3 k3 c3] 72)).alloc (.cells #[.string sd, .string ⟨#[61]⟩] 9))) := Lib.hid (by rw [HW1.out]; exact (Below.refl _ _).alloc (by rw [HZ1.out]; omega) _)
  go_wp2_with fail
  obtain ⟨v3, hv3, HO3⟩ : ∃ v3, Value.slice (some ⟨w.heap.size + 1 + 1, 0, none⟩) 2 ((Question.appendCap 2 0 9).cut (w.tape w.drawn (Question.appendCap 2 0 9))) = v3 ∧ Hid (World.ownsRow ((((w.alloc (.cells #[i64 op, .string sd, str nm, .slice (some ⟨ab, ao, none⟩) n cap, .slice B2 k2 c2, .slice B3 k3 c3] 72)).alloc (.cells #[.string sd, .string ⟨#[61]⟩] 9)).alloc (.cells (#[.string sd, .string ⟨#[61]⟩] ++ Builtin.zeroCells #[.string ⟨#[]⟩] ((Question.appendCap 2 0 9).cut (w.tape w.drawn (Question.appendCap 2 0 9)) - 2)) 9)).drew) (w.heap.size + 1) 9 1 v3 2 (LinesM.strs [sd.data.toList, kEq])) := ⟨_, rfl, Lib.hid (fresh_row (q := w) (base := w.heap.size + 1) (g := w.heap.size + 1 + 1) (w1 := ((w.alloc (.cells #[i64 op, .string sd, str nm, .slice (some ⟨ab, ao, none⟩) n cap, .slice B2 k2 c2, .slice B3 k3 c3] 72)).alloc (.cells #[.string sd, .string ⟨#[61]⟩] 9))) [.string sd, .string ⟨#[61]⟩] [sd.data.toList, kEq] rfl (by simp [LinesM.strs, kEq]) (by simp) (by simp) (by simp) (by simp) rfl)⟩
  have HB3 := Lib.hid ((HB2.out.alloc (by simp) (.cells (#[.string sd, .string ⟨#[61]⟩] ++ Builtin.zeroCells #[.string ⟨#[]⟩] (grownCap w 2 0 9 - 2)) 9)).drew)
  refine (QO.out _ ((HL.out.below HB01.out (Nat.le_refl _)).below HB3.out (by rw [HZ1.out]; omega))).mono ?_; rintro e w5 ⟨rfl, hb5⟩
  rw [hv3]
  clear hv3
  have HO5 := Lib.hid (World.ownsRow.alloc (LinesM.own_below HO3.out hb5) (.cells #[.string z, .bool true, .bool true, .int .i64 l0, .int .i64 km] 186))
  have HB5 := Lib.hid (HB3.out.trans (hb5.mono (by simp)))
  have hs5 : w.heap.size + 1 ≤ w5.heap.size := by have := hb5.size; simp at this; omega
  have HB6 := Lib.hid (HB5.out.alloc hs5 (.cells #[.string z, .bool true, .bool true, .int .i64 l0, .int .i64 km] 186))
  have HOF := Lib.hid (Own.made w5 186 [.string z, .bool true, .bool true, .int .i64 l0, .int .i64 km])
  have HS5 : Hid (w.heap.size < w5.heap.size) := Lib.hid (by omega)
  clear hb5
  go_wp2_with (first | ((with_reducible refine (QA.out _).mono ?_); rintro e w0 ⟨rfl, rfl⟩) | (at_builtin; refine LinesM.wpList_push_at rfl _ _ 41 rfl (w.heap.size + 1) 9 i0 (.string ⟨#[]⟩) 1 16 Tryd.underlying41 Hi.out Hz0.out Hz1.out Hz2.out rfl (by decide) _ _ _ rfl HO5.out [.string z] (w5.heap.size + 1) (by simp) rfl rfl (by simp [Value.oneCell']) (by have h1 := HM1.out; have h2 := HM2.out; unfold maxLen; omega) (by have h1 := HM1.out; have h2 := HM2.out; omega) (Nat.le_trans (Nat.le_of_eq HZ1.out.symm) HB6.out.size) ?_; intro v7 w7 hown hgn; have HGw7 := Lib.hid hgn; have HO7 := Lib.hid hown; have HB7 := Lib.hid (LinesM.below_grown HB6.out HO5.out hgn (Nat.le_trans (Nat.le_of_eq HZ1.out.symm) HB6.out.size) (Nat.le_refl _)); clear hown hgn; have HOF7 := Lib.hid (keep_f HOF.out (by decide) HO5.out HGw7.out); have g0 := own_hold6 HO1.out HB7.out (Nat.lt_succ_self _) 0 rfl; have g1 := own_hold6 HO1.out HB7.out (Nat.lt_succ_self _) 1 rfl; have g2 := own_hold6 HO1.out HB7.out (Nat.lt_succ_self _) 2 rfl; have g3 := own_hold6 HO1.out HB7.out (Nat.lt_succ_self _) 3 rfl; have g4 := own_hold6 HO1.out HB7.out (Nat.lt_succ_self _) 4 rfl; have g5 := own_hold6 HO1.out HB7.out (Nat.lt_succ_self _) 5 rfl) | ((with_reducible refine (QP1.out _ (HB01.out.trans (HB7.out.mono (Nat.le_succ _)))).mono ?_); rintro e w8 ⟨v8, rfl, ho, hb⟩; have HP8 := Lib.hid (LinesM.own_lower ho (Nat.le_trans (Nat.le_of_eq HZ1.out.symm) HB7.out.size)); have HO8 := Lib.hid (LinesM.own_below HO7.out hb); have HB8 := Lib.hid (HB7.out.trans (hb.mono (Nat.le_trans (Nat.le_of_eq HZ1.out.symm) HB7.out.size))); have HOF8 := Lib.hid (HOF7.out.below hb HOF7.out.lt); clear ho hb) | (at_builtin; refine wpList_rows rfl _ _ 41 rfl (w.heap.size + 1) 9 i0 (.string ⟨#[]⟩) 1 16 Tryd.underlying41 Hi.out Hz0.out Hz1.out Hz2.out rfl (by decide) _ _ _ rfl HO8.out _ _ _ rfl HP8.out (ones_strs _) (by have h1 := HM1.out; have h2 := HM2.out; unfold maxLen; omega) (by have h1 := HM1.out; have h2 := HM2.out; omega) (Nat.le_trans (Nat.le_of_eq HZ1.out.symm) HB8.out.size) ?_; intro v9 w9 hown hgn; have HGw9 := Lib.hid hgn; have HO9 := Lib.hid hown; have HB9 := Lib.hid (LinesM.below_grown HB8.out HO8.out hgn (Nat.le_trans (Nat.le_of_eq HZ1.out.symm) HB8.out.size) (Nat.le_refl _)); clear hown hgn; have HOF9 := keep_f HOF8.out (by decide) HO8.out HGw9.out; have p2 := HOF9.cell 2; simp only [List.getElem?_cons_succ, List.getElem?_cons_zero] at p2; clear HOF9; clear g0 g1 g2 g3 g4 g5; have g0 := own_hold6 HO1.out HB9.out (Nat.lt_succ_self _) 0 rfl; have g1 := own_hold6 HO1.out HB9.out (Nat.lt_succ_self _) 1 rfl; have g2 := own_hold6 HO1.out HB9.out (Nat.lt_succ_self _) 2 rfl; have g3 := own_hold6 HO1.out HB9.out (Nat.lt_succ_self _) 3 rfl; have g4 := own_hold6 HO1.out HB9.out (Nat.lt_succ_self _) 4 rfl; have g5 := own_hold6 HO1.out HB9.out (Nat.lt_succ_self _) 5 rfl) | (at_builtin; refine LinesM.wpList_push_at rfl _ _ 41 rfl (w.heap.size + 1) 9 i0 (.string ⟨#[]⟩) 1 16 Tryd.underlying41 Hi.out Hz0.out Hz1.out Hz2.out rfl (by decide) _ _ _ rfl HO9.out [str nm] (w9.heap.size) (by simp) rfl rfl (by simp [Value.oneCell']) (by have h1 := HM1.out; have h2 := HM2.out; unfold maxLen; omega) (by have h1 := HM1.out; have h2 := HM2.out; omega) (Nat.le_trans (Nat.le_of_eq HZ1.out.symm) HB9.out.size) ?_; intro v11 w11 hown hgn; have HGw11 := Lib.hid hgn; have HO11 := Lib.hid hown; have HB11 := Lib.hid (LinesM.below_grown HB9.out HO9.out hgn (Nat.le_trans (Nat.le_of_eq HZ1.out.symm) HB9.out.size) (Nat.le_refl _)); clear hown hgn; clear p2 g0 g1 g2 g3 g4 g5; have g0 := own_hold6 HO1.out HB11.out (Nat.lt_succ_self _) 0 rfl; have g1 := own_hold6 HO1.out HB11.out (Nat.lt_succ_self _) 1 rfl; have g2 := own_hold6 HO1.out HB11.out (Nat.lt_succ_self _) 2 rfl; have g3 := own_hold6 HO1.out HB11.out (Nat.lt_succ_self _) 3 rfl; have g4 := own_hold6 HO1.out HB11.out (Nat.lt_succ_self _) 4 rfl; have g5 := own_hold6 HO1.out HB11.out (Nat.lt_succ_self _) 5 rfl) | ((with_reducible refine (QP2.out _ (HB01.out.trans (HB11.out.mono (Nat.le_succ _)))).mono ?_); rintro e w12 ⟨v12, rfl, ho, hb⟩; have HP12 := Lib.hid (LinesM.own_lower ho (Nat.le_trans (Nat.le_of_eq HZ1.out.symm) HB11.out.size)); have HO12 := Lib.hid (LinesM.own_below HO11.out hb); have HB12 := Lib.hid (HB11.out.trans (hb.mono (Nat.le_trans (Nat.le_of_eq HZ1.out.symm) HB11.out.size))); clear ho hb) | ((with_reducible refine (QP3.out _ (by omega) (HB01.out.trans (HB11.out.mono (Nat.le_succ _)))).mono ?_); rintro e w12 ⟨v12, rfl, ho, hb⟩; have HP12 := Lib.hid (LinesM.own_lower ho (Nat.le_trans (Nat.le_of_eq HZ1.out.symm) HB11.out.size)); have HO12 := Lib.hid (LinesM.own_below HO11.out hb); have HB12 := Lib.hid (HB11.out.trans (hb.mono (Nat.le_trans (Nat.le_of_eq HZ1.out.symm) HB11.out.size))); clear ho hb) | (at_builtin; refine wpList_rows rfl _ _ 41 rfl (w.heap.size + 1) 9 i0 (.string ⟨#[]⟩) 1 16 Tryd.underlying41 Hi.out Hz0.out Hz1.out Hz2.out rfl (by decide) _ _ _ rfl HO12.out _ _ _ rfl HP12.out (ones_strs _) (by have h1 := HM1.out; have h2 := HM2.out; unfold maxLen; omega) (by have h1 := HM1.out; have h2 := HM2.out; omega) (Nat.le_trans (Nat.le_of_eq HZ1.out.symm) HB12.out.size) ?_; intro v13 w13 hown hgn; have HGw13 := Lib.hid hgn; have HO13 := Lib.hid hown; have HB13 := Lib.hid (LinesM.below_grown HB12.out HO12.out hgn (Nat.le_trans (Nat.le_of_eq HZ1.out.symm) HB12.out.size) (Nat.le_refl _)); clear hown hgn))
  all_goals
    go_ret
    refine ⟨_, rfl, row_eq (LinesM.own_lower HO13.out (Nat.le_succ w.heap.size)) (by simp <;> omega) (by simp [LinesM.strs]), HB01.out.trans (HB13.out.mono (Nat.le_succ _))⟩
set_option maxRecDepth 100000 in
set_option maxHeartbeats 16000000 in
theorem instrWords_1do (lo hi : Nat) (w : World) (op : Int) (nm : Wd) (sd z : ByteArray) (l : List Arg) (ab ao : Nat) (B2 B3 : Option Addr) (n cap k2 c2 k3 c3 : Nat) (l0 km : Int) (hx : Args lo hi w (.slice (some ⟨ab, ao, none⟩) n cap) l) (hn : n = l.length) (hh : hi ≤ w.heap.size) (hcap : n ≤ cap) (hI : ∀ a ∈ l, argI a) (hl : n ≤ 1048576) (hL : LaidS w) (hfo : formV op = (⟨z.data.toList, true, false, l0, km⟩, true)) (ha : aheadV op = 1) (hk : 1 ≤ n) (e0 : sd.toList.isEmpty = false) :
    Calls Tryd.prog 105 #[.agg #[i64 op, .string sd, str nm, .slice (some ⟨ab, ao, none⟩) n cap, .slice B2 k2 c2, .slice B3 k3 c3]] w (WordsP w ([sd.data.toList, kEq] ++ (z.data.toList :: ((l.take 1).map putA ++ ([] ++ (l.drop 1).map putA))))) := by
  obtain ⟨i0, hi0, hz0, hz1, hz2⟩ := info_parts s_info
  have Hi := Lib.hid hi0
  have Hz0 := Lib.hid hz0
  have Hz1 := Lib.hid hz1
  have Hz2 := Lib.hid hz2
  have QA := Lib.hid (ahead_to op 1 ha)
  have QO := Lib.hid fun w => of_as op z _ _ l0 km true hfo w
  have HL := Lib.hid hL
  have HX := Lib.hid hx
  have HI := Lib.hid hI
  have HN := Lib.hid hn
  have QP1 := Lib.hid fun (w' : World) (hb : Below w.heap.size w w') => puts_any lo hi w' _ (l.take 1) (Args.move (Still.of_below (hb.mono hh)) (args_take hx hk hcap)) (Nat.le_trans hh hb.size) (fun a ha => hI a (List.mem_of_mem_take ha)) (by rw [List.length_take]; omega)
  have QP2 := Lib.hid fun (w' : World) (hb : Below w.heap.size w w') => puts_any lo hi w' _ (l.drop 1) (Args.move (Still.of_below (hb.mono hh)) (args_drop (c := cap - 1) hx hk hk (by omega))) (Nat.le_trans hh hb.size) (fun a ha => hI a (List.mem_of_mem_drop ha)) (by rw [List.length_drop]; omega)
  have QP3 := Lib.hid fun (w' : World) (hc : cap - 1 = 0) (hb : Below w.heap.size w w') => puts_any lo hi w' _ (l.drop 1) (Args.move (Still.of_below (hb.mono hh)) (args_end (A2 := some ⟨ab, ao, none⟩) hx hc hk hcap)) (Nat.le_trans hh hb.size) (fun a ha => hI a (List.mem_of_mem_drop ha)) (by rw [List.length_drop]; omega)
  have HM1 : Hid (((l.take 1).map putA).length ≤ 1048576) := Lib.hid (by rw [List.length_map, List.length_take]; omega)
  have HM2 : Hid (((l.drop 1).map putA).length ≤ 1048576) := Lib.hid (by rw [List.length_map]; rw [List.length_drop]; omega)
  clear hi0 hz0 hz1 hz2 hfo hL hx hI hn ha
  have HB0 := Lib.hid ((Below.refl w.heap.size w).alloc (Nat.le_refl _) (.cells #[i64 op, .string sd, str nm, .slice (some ⟨ab, ao, none⟩) n cap, .slice B2 k2 c2, .slice B3 k3 c3] 72))
  obtain ⟨W1, hW1⟩ : ∃ W1, w.alloc (.cells #[i64 op, .string sd, str nm, .slice (some ⟨ab, ao, none⟩) n cap, .slice B2 k2 c2, .slice B3 k3 c3] 72) = W1 := ⟨_, rfl⟩
  have hz1 : W1.heap.size = w.heap.size + 1 := by rw [← hW1]; simp
  have HZ1 := Lib.hid hz1
  have HW1 := Lib.hid hW1
  have HO1 : Hid (Own W1 w.heap.size 72 [i64 op, .string sd, str nm, .slice (some ⟨ab, ao, none⟩) n cap, .slice B2 k2 c2, .slice B3 k3 c3]) := Lib.hid (by rw [← hW1]; exact Own.made w 72 [i64 op, .string sd, str nm, .slice (some ⟨ab, ao, none⟩) n cap, .slice B2 k2 c2, .slice B3 k3 c3])
  have HB01 : Hid (Below w.heap.size w W1) := Lib.hid (by rw [← hW1]; exact HB0.out)
  clear hz1 hW1
  go_enter Tryd.func105, Tryd.ntmps105
  have HLT := Lib.hid (made_row (base := w.heap.size + 1) (g := w.heap.size + 1) (w := w.alloc (.cells #[i64 op, .string sd, str nm, .slice (some ⟨ab, ao, none⟩) n cap, .slice B2 k2 c2, .slice B3 k3 c3] 72)) [.string sd, .string ⟨#[61]⟩] [sd.data.toList, kEq] rfl (by simp) (by simp) (by simp [LinesM.strs, kEq]) (by simp))
  have HB2 : Hid (Below (w.heap.size + 1) W1 ((w.alloc (.cells #[i64 op, .string sd, str nm, .slice (some ⟨ab, ao, none⟩) n cap, .slice B2 k2 c2, .slice B3 k3 c3] 72)).alloc (.cells #[.string sd, .string ⟨#[61]⟩] 9))) := Lib.hid (by rw [HW1.out]; exact (Below.refl _ _).alloc (by rw [HZ1.out]; omega) _)
  go_wp2_with fail
  obtain ⟨v3, hv3, HO3⟩ : ∃ v3, Value.slice (some ⟨w.heap.size + 1 + 1, 0, none⟩) 2 ((Question.appendCap 2 0 9).cut (w.tape w.drawn (Question.appendCap 2 0 9))) = v3 ∧ Hid (World.ownsRow ((((w.alloc (.cells #[i64 op, .string sd, str nm, .slice (some ⟨ab, ao, none⟩) n cap, .slice B2 k2 c2, .slice B3 k3 c3] 72)).alloc (.cells #[.string sd, .string ⟨#[61]⟩] 9)).alloc (.cells (#[.string sd, .string ⟨#[61]⟩] ++ Builtin.zeroCells #[.string ⟨#[]⟩] ((Question.appendCap 2 0 9).cut (w.tape w.drawn (Question.appendCap 2 0 9)) - 2)) 9)).drew) (w.heap.size + 1) 9 1 v3 2 (LinesM.strs [sd.data.toList, kEq])) := ⟨_, rfl, Lib.hid (fresh_row (q := w) (base := w.heap.size + 1) (g := w.heap.size + 1 + 1) (w1 := ((w.alloc (.cells #[i64 op, .string sd, str nm, .slice (some ⟨ab, ao, none⟩) n cap, .slice B2 k2 c2, .slice B3 k3 c3] 72)).alloc (.cells #[.string sd, .string ⟨#[61]⟩] 9))) [.string sd, .string ⟨#[61]⟩] [sd.data.toList, kEq] rfl (by simp [LinesM.strs, kEq]) (by simp) (by simp) (by simp) (by simp) rfl)⟩
  have HB3 := Lib.hid ((HB2.out.alloc (by simp) (.cells (#[.string sd, .string ⟨#[61]⟩] ++ Builtin.zeroCells #[.string ⟨#[]⟩] (grownCap w 2 0 9 - 2)) 9)).drew)
  refine (QO.out _ ((HL.out.below HB01.out (Nat.le_refl _)).below HB3.out (by rw [HZ1.out]; omega))).mono ?_; rintro e w5 ⟨rfl, hb5⟩
  rw [hv3]
  clear hv3
  have HO5 := Lib.hid (World.ownsRow.alloc (LinesM.own_below HO3.out hb5) (.cells #[.string z, .bool true, .bool false, .int .i64 l0, .int .i64 km] 186))
  have HB5 := Lib.hid (HB3.out.trans (hb5.mono (by simp)))
  have hs5 : w.heap.size + 1 ≤ w5.heap.size := by have := hb5.size; simp at this; omega
  have HB6 := Lib.hid (HB5.out.alloc hs5 (.cells #[.string z, .bool true, .bool false, .int .i64 l0, .int .i64 km] 186))
  have HOF := Lib.hid (Own.made w5 186 [.string z, .bool true, .bool false, .int .i64 l0, .int .i64 km])
  have HS5 : Hid (w.heap.size < w5.heap.size) := Lib.hid (by omega)
  clear hb5
  go_wp2_with (first | ((with_reducible refine (QA.out _).mono ?_); rintro e w0 ⟨rfl, rfl⟩) | (at_builtin; refine LinesM.wpList_push_at rfl _ _ 41 rfl (w.heap.size + 1) 9 i0 (.string ⟨#[]⟩) 1 16 Tryd.underlying41 Hi.out Hz0.out Hz1.out Hz2.out rfl (by decide) _ _ _ rfl HO5.out [.string z] (w5.heap.size + 1) (by simp) rfl rfl (by simp [Value.oneCell']) (by have h1 := HM1.out; have h2 := HM2.out; unfold maxLen; omega) (by have h1 := HM1.out; have h2 := HM2.out; omega) (Nat.le_trans (Nat.le_of_eq HZ1.out.symm) HB6.out.size) ?_; intro v7 w7 hown hgn; have HGw7 := Lib.hid hgn; have HO7 := Lib.hid hown; have HB7 := Lib.hid (LinesM.below_grown HB6.out HO5.out hgn (Nat.le_trans (Nat.le_of_eq HZ1.out.symm) HB6.out.size) (Nat.le_refl _)); clear hown hgn; have HOF7 := Lib.hid (keep_f HOF.out (by decide) HO5.out HGw7.out); have g0 := own_hold6 HO1.out HB7.out (Nat.lt_succ_self _) 0 rfl; have g1 := own_hold6 HO1.out HB7.out (Nat.lt_succ_self _) 1 rfl; have g2 := own_hold6 HO1.out HB7.out (Nat.lt_succ_self _) 2 rfl; have g3 := own_hold6 HO1.out HB7.out (Nat.lt_succ_self _) 3 rfl; have g4 := own_hold6 HO1.out HB7.out (Nat.lt_succ_self _) 4 rfl; have g5 := own_hold6 HO1.out HB7.out (Nat.lt_succ_self _) 5 rfl) | ((with_reducible refine (QP1.out _ (HB01.out.trans (HB7.out.mono (Nat.le_succ _)))).mono ?_); rintro e w8 ⟨v8, rfl, ho, hb⟩; have HP8 := Lib.hid (LinesM.own_lower ho (Nat.le_trans (Nat.le_of_eq HZ1.out.symm) HB7.out.size)); have HO8 := Lib.hid (LinesM.own_below HO7.out hb); have HB8 := Lib.hid (HB7.out.trans (hb.mono (Nat.le_trans (Nat.le_of_eq HZ1.out.symm) HB7.out.size))); have HOF8 := Lib.hid (HOF7.out.below hb HOF7.out.lt); clear ho hb) | (at_builtin; refine wpList_rows rfl _ _ 41 rfl (w.heap.size + 1) 9 i0 (.string ⟨#[]⟩) 1 16 Tryd.underlying41 Hi.out Hz0.out Hz1.out Hz2.out rfl (by decide) _ _ _ rfl HO8.out _ _ _ rfl HP8.out (ones_strs _) (by have h1 := HM1.out; have h2 := HM2.out; unfold maxLen; omega) (by have h1 := HM1.out; have h2 := HM2.out; omega) (Nat.le_trans (Nat.le_of_eq HZ1.out.symm) HB8.out.size) ?_; intro v9 w9 hown hgn; have HGw9 := Lib.hid hgn; have HO9 := Lib.hid hown; have HB9 := Lib.hid (LinesM.below_grown HB8.out HO8.out hgn (Nat.le_trans (Nat.le_of_eq HZ1.out.symm) HB8.out.size) (Nat.le_refl _)); clear hown hgn; have HOF9 := keep_f HOF8.out (by decide) HO8.out HGw9.out; have p2 := HOF9.cell 2; simp only [List.getElem?_cons_succ, List.getElem?_cons_zero] at p2; clear HOF9; clear g0 g1 g2 g3 g4 g5; have g0 := own_hold6 HO1.out HB9.out (Nat.lt_succ_self _) 0 rfl; have g1 := own_hold6 HO1.out HB9.out (Nat.lt_succ_self _) 1 rfl; have g2 := own_hold6 HO1.out HB9.out (Nat.lt_succ_self _) 2 rfl; have g3 := own_hold6 HO1.out HB9.out (Nat.lt_succ_self _) 3 rfl; have g4 := own_hold6 HO1.out HB9.out (Nat.lt_succ_self _) 4 rfl; have g5 := own_hold6 HO1.out HB9.out (Nat.lt_succ_self _) 5 rfl) | ((with_reducible refine (QP2.out _ (HB01.out.trans (HB9.out.mono (Nat.le_succ _)))).mono ?_); rintro e w12 ⟨v12, rfl, ho, hb⟩; have HP12 := Lib.hid (LinesM.own_lower ho (Nat.le_trans (Nat.le_of_eq HZ1.out.symm) HB9.out.size)); have HO12 := Lib.hid (LinesM.own_below HO9.out hb); have HB12 := Lib.hid (HB9.out.trans (hb.mono (Nat.le_trans (Nat.le_of_eq HZ1.out.symm) HB9.out.size))); clear ho hb) | ((with_reducible refine (QP3.out _ (by omega) (HB01.out.trans (HB9.out.mono (Nat.le_succ _)))).mono ?_); rintro e w12 ⟨v12, rfl, ho, hb⟩; have HP12 := Lib.hid (LinesM.own_lower ho (Nat.le_trans (Nat.le_of_eq HZ1.out.symm) HB9.out.size)); have HO12 := Lib.hid (LinesM.own_below HO9.out hb); have HB12 := Lib.hid (HB9.out.trans (hb.mono (Nat.le_trans (Nat.le_of_eq HZ1.out.symm) HB9.out.size))); clear ho hb) | (at_builtin; refine wpList_rows rfl _ _ 41 rfl (w.heap.size + 1) 9 i0 (.string ⟨#[]⟩) 1 16 Tryd.underlying41 Hi.out Hz0.out Hz1.out Hz2.out rfl (by decide) _ _ _ rfl HO12.out _ _ _ rfl HP12.out (ones_strs _) (by have h1 := HM1.out; have h2 := HM2.out; unfold maxLen; omega) (by have h1 := HM1.out; have h2 := HM2.out; omega) (Nat.le_trans (Nat.le_of_eq HZ1.out.symm) HB12.out.size) ?_; intro v13 w13 hown hgn; have HGw13 := Lib.hid hgn; have HO13 := Lib.hid hown; have HB13 := Lib.hid (LinesM.below_grown HB12.out HO12.out hgn (Nat.le_trans (Nat.le_of_eq HZ1.out.symm) HB12.out.size) (Nat.le_refl _)); clear hown hgn))
  all_goals
    go_ret
    refine ⟨_, rfl, row_eq (LinesM.own_lower HO13.out (Nat.le_succ w.heap.size)) (by simp <;> omega) (by simp [LinesM.strs]), HB01.out.trans (HB13.out.mono (Nat.le_succ _))⟩
set_option maxRecDepth 100000 in
set_option maxHeartbeats 16000000 in
theorem instrWords_1ny (lo hi : Nat) (w : World) (op : Int) (nm : Wd) (sd z : ByteArray) (l : List Arg) (ab ao : Nat) (B2 B3 : Option Addr) (n cap k2 c2 k3 c3 : Nat) (l0 km : Int) (hx : Args lo hi w (.slice (some ⟨ab, ao, none⟩) n cap) l) (hn : n = l.length) (hh : hi ≤ w.heap.size) (hcap : n ≤ cap) (hI : ∀ a ∈ l, argI a) (hl : n ≤ 1048576) (hL : LaidS w) (hfo : formV op = (⟨z.data.toList, false, true, l0, km⟩, true)) (ha : aheadV op = 1) (hk : 1 ≤ n) (e0 : sd.toList.isEmpty = true) :
    Calls Tryd.prog 105 #[.agg #[i64 op, .string sd, str nm, .slice (some ⟨ab, ao, none⟩) n cap, .slice B2 k2 c2, .slice B3 k3 c3]] w (WordsP w ((z.data.toList :: ((l.take 1).map putA ++ ([nm] ++ (l.drop 1).map putA))))) := by
  obtain ⟨i0, hi0, hz0, hz1, hz2⟩ := info_parts s_info
  have Hi := Lib.hid hi0
  have Hz0 := Lib.hid hz0
  have Hz1 := Lib.hid hz1
  have Hz2 := Lib.hid hz2
  have QA := Lib.hid (ahead_to op 1 ha)
  have QO := Lib.hid fun w => of_as op z _ _ l0 km true hfo w
  have HL := Lib.hid hL
  have HX := Lib.hid hx
  have HI := Lib.hid hI
  have HN := Lib.hid hn
  have QP1 := Lib.hid fun (w' : World) (hb : Below w.heap.size w w') => puts_any lo hi w' _ (l.take 1) (Args.move (Still.of_below (hb.mono hh)) (args_take hx hk hcap)) (Nat.le_trans hh hb.size) (fun a ha => hI a (List.mem_of_mem_take ha)) (by rw [List.length_take]; omega)
  have QP2 := Lib.hid fun (w' : World) (hb : Below w.heap.size w w') => puts_any lo hi w' _ (l.drop 1) (Args.move (Still.of_below (hb.mono hh)) (args_drop (c := cap - 1) hx hk hk (by omega))) (Nat.le_trans hh hb.size) (fun a ha => hI a (List.mem_of_mem_drop ha)) (by rw [List.length_drop]; omega)
  have QP3 := Lib.hid fun (w' : World) (hc : cap - 1 = 0) (hb : Below w.heap.size w w') => puts_any lo hi w' _ (l.drop 1) (Args.move (Still.of_below (hb.mono hh)) (args_end (A2 := some ⟨ab, ao, none⟩) hx hc hk hcap)) (Nat.le_trans hh hb.size) (fun a ha => hI a (List.mem_of_mem_drop ha)) (by rw [List.length_drop]; omega)
  have HM1 : Hid (((l.take 1).map putA).length ≤ 1048576) := Lib.hid (by rw [List.length_map, List.length_take]; omega)
  have HM2 : Hid (((l.drop 1).map putA).length ≤ 1048576) := Lib.hid (by rw [List.length_map]; rw [List.length_drop]; omega)
  clear hi0 hz0 hz1 hz2 hfo hL hx hI hn ha
  have HB0 := Lib.hid ((Below.refl w.heap.size w).alloc (Nat.le_refl _) (.cells #[i64 op, .string sd, str nm, .slice (some ⟨ab, ao, none⟩) n cap, .slice B2 k2 c2, .slice B3 k3 c3] 72))
  obtain ⟨W1, hW1⟩ : ∃ W1, w.alloc (.cells #[i64 op, .string sd, str nm, .slice (some ⟨ab, ao, none⟩) n cap, .slice B2 k2 c2, .slice B3 k3 c3] 72) = W1 := ⟨_, rfl⟩
  have hz1 : W1.heap.size = w.heap.size + 1 := by rw [← hW1]; simp
  have HZ1 := Lib.hid hz1
  have HW1 := Lib.hid hW1
  have HO1 : Hid (Own W1 w.heap.size 72 [i64 op, .string sd, str nm, .slice (some ⟨ab, ao, none⟩) n cap, .slice B2 k2 c2, .slice B3 k3 c3]) := Lib.hid (by rw [← hW1]; exact Own.made w 72 [i64 op, .string sd, str nm, .slice (some ⟨ab, ao, none⟩) n cap, .slice B2 k2 c2, .slice B3 k3 c3])
  have HB01 : Hid (Below w.heap.size w W1) := Lib.hid (by rw [← hW1]; exact HB0.out)
  clear hz1 hW1
  go_enter Tryd.func105, Tryd.ntmps105
  go_wp2_with fail
  rw [HW1.out]
  refine (QO.out _ (HL.out.below HB01.out (Nat.le_refl _))).mono ?_; rintro e w5 ⟨rfl, hb5⟩
  obtain ⟨v3, hv3, HO5⟩ : ∃ v3, Value.slice none 0 0 = v3 ∧ Hid (World.ownsRow (w5.alloc (.cells #[.string z, .bool false, .bool true, .int .i64 l0, .int .i64 km] 186)) (w.heap.size + 1) 9 1 v3 0 []) := ⟨_, rfl, Lib.hid (World.ownsRow_nil _ _ _ _)⟩
  rw [hv3]
  clear hv3
  have HB5 : Hid (Below (w.heap.size + 1) W1 w5) := Lib.hid (hb5.mono (by rw [HZ1.out]; omega))
  have hs5 : w.heap.size + 1 ≤ w5.heap.size := by have := hb5.size; rw [HZ1.out] at this; omega
  have HB6 := Lib.hid (HB5.out.alloc hs5 (.cells #[.string z, .bool false, .bool true, .int .i64 l0, .int .i64 km] 186))
  have HOF := Lib.hid (Own.made w5 186 [.string z, .bool false, .bool true, .int .i64 l0, .int .i64 km])
  have HS5 : Hid (w.heap.size < w5.heap.size) := Lib.hid (by omega)
  clear hb5
  go_wp2_with (first | ((with_reducible refine (QA.out _).mono ?_); rintro e w0 ⟨rfl, rfl⟩) | (at_builtin; refine LinesM.wpList_push_at rfl _ _ 41 rfl (w.heap.size + 1) 9 i0 (.string ⟨#[]⟩) 1 16 Tryd.underlying41 Hi.out Hz0.out Hz1.out Hz2.out rfl (by decide) _ _ _ rfl HO5.out [.string z] (w5.heap.size + 1) (by simp) rfl rfl (by simp [Value.oneCell']) (by have h1 := HM1.out; have h2 := HM2.out; unfold maxLen; omega) (by have h1 := HM1.out; have h2 := HM2.out; omega) (Nat.le_trans (Nat.le_of_eq HZ1.out.symm) HB6.out.size) ?_; intro v7 w7 hown hgn; have HGw7 := Lib.hid hgn; have HO7 := Lib.hid hown; have HB7 := Lib.hid (LinesM.below_grown HB6.out HO5.out hgn (Nat.le_trans (Nat.le_of_eq HZ1.out.symm) HB6.out.size) (Nat.le_refl _)); clear hown hgn; have HOF7 := Lib.hid (keep_f HOF.out (by decide) HO5.out HGw7.out); have g0 := own_hold6 HO1.out HB7.out (Nat.lt_succ_self _) 0 rfl; have g1 := own_hold6 HO1.out HB7.out (Nat.lt_succ_self _) 1 rfl; have g2 := own_hold6 HO1.out HB7.out (Nat.lt_succ_self _) 2 rfl; have g3 := own_hold6 HO1.out HB7.out (Nat.lt_succ_self _) 3 rfl; have g4 := own_hold6 HO1.out HB7.out (Nat.lt_succ_self _) 4 rfl; have g5 := own_hold6 HO1.out HB7.out (Nat.lt_succ_self _) 5 rfl) | ((with_reducible refine (QP1.out _ (HB01.out.trans (HB7.out.mono (Nat.le_succ _)))).mono ?_); rintro e w8 ⟨v8, rfl, ho, hb⟩; have HP8 := Lib.hid (LinesM.own_lower ho (Nat.le_trans (Nat.le_of_eq HZ1.out.symm) HB7.out.size)); have HO8 := Lib.hid (LinesM.own_below HO7.out hb); have HB8 := Lib.hid (HB7.out.trans (hb.mono (Nat.le_trans (Nat.le_of_eq HZ1.out.symm) HB7.out.size))); have HOF8 := Lib.hid (HOF7.out.below hb HOF7.out.lt); clear ho hb) | (at_builtin; refine wpList_rows rfl _ _ 41 rfl (w.heap.size + 1) 9 i0 (.string ⟨#[]⟩) 1 16 Tryd.underlying41 Hi.out Hz0.out Hz1.out Hz2.out rfl (by decide) _ _ _ rfl HO8.out _ _ _ rfl HP8.out (ones_strs _) (by have h1 := HM1.out; have h2 := HM2.out; unfold maxLen; omega) (by have h1 := HM1.out; have h2 := HM2.out; omega) (Nat.le_trans (Nat.le_of_eq HZ1.out.symm) HB8.out.size) ?_; intro v9 w9 hown hgn; have HGw9 := Lib.hid hgn; have HO9 := Lib.hid hown; have HB9 := Lib.hid (LinesM.below_grown HB8.out HO8.out hgn (Nat.le_trans (Nat.le_of_eq HZ1.out.symm) HB8.out.size) (Nat.le_refl _)); clear hown hgn; have HOF9 := keep_f HOF8.out (by decide) HO8.out HGw9.out; have p2 := HOF9.cell 2; simp only [List.getElem?_cons_succ, List.getElem?_cons_zero] at p2; clear HOF9; clear g0 g1 g2 g3 g4 g5; have g0 := own_hold6 HO1.out HB9.out (Nat.lt_succ_self _) 0 rfl; have g1 := own_hold6 HO1.out HB9.out (Nat.lt_succ_self _) 1 rfl; have g2 := own_hold6 HO1.out HB9.out (Nat.lt_succ_self _) 2 rfl; have g3 := own_hold6 HO1.out HB9.out (Nat.lt_succ_self _) 3 rfl; have g4 := own_hold6 HO1.out HB9.out (Nat.lt_succ_self _) 4 rfl; have g5 := own_hold6 HO1.out HB9.out (Nat.lt_succ_self _) 5 rfl) | (at_builtin; refine LinesM.wpList_push_at rfl _ _ 41 rfl (w.heap.size + 1) 9 i0 (.string ⟨#[]⟩) 1 16 Tryd.underlying41 Hi.out Hz0.out Hz1.out Hz2.out rfl (by decide) _ _ _ rfl HO9.out [str nm] (w9.heap.size) (by simp) rfl rfl (by simp [Value.oneCell']) (by have h1 := HM1.out; have h2 := HM2.out; unfold maxLen; omega) (by have h1 := HM1.out; have h2 := HM2.out; omega) (Nat.le_trans (Nat.le_of_eq HZ1.out.symm) HB9.out.size) ?_; intro v11 w11 hown hgn; have HGw11 := Lib.hid hgn; have HO11 := Lib.hid hown; have HB11 := Lib.hid (LinesM.below_grown HB9.out HO9.out hgn (Nat.le_trans (Nat.le_of_eq HZ1.out.symm) HB9.out.size) (Nat.le_refl _)); clear hown hgn; clear p2 g0 g1 g2 g3 g4 g5; have g0 := own_hold6 HO1.out HB11.out (Nat.lt_succ_self _) 0 rfl; have g1 := own_hold6 HO1.out HB11.out (Nat.lt_succ_self _) 1 rfl; have g2 := own_hold6 HO1.out HB11.out (Nat.lt_succ_self _) 2 rfl; have g3 := own_hold6 HO1.out HB11.out (Nat.lt_succ_self _) 3 rfl; have g4 := own_hold6 HO1.out HB11.out (Nat.lt_succ_self _) 4 rfl; have g5 := own_hold6 HO1.out HB11.out (Nat.lt_succ_self _) 5 rfl) | ((with_reducible refine (QP2.out _ (HB01.out.trans (HB11.out.mono (Nat.le_succ _)))).mono ?_); rintro e w12 ⟨v12, rfl, ho, hb⟩; have HP12 := Lib.hid (LinesM.own_lower ho (Nat.le_trans (Nat.le_of_eq HZ1.out.symm) HB11.out.size)); have HO12 := Lib.hid (LinesM.own_below HO11.out hb); have HB12 := Lib.hid (HB11.out.trans (hb.mono (Nat.le_trans (Nat.le_of_eq HZ1.out.symm) HB11.out.size))); clear ho hb) | ((with_reducible refine (QP3.out _ (by omega) (HB01.out.trans (HB11.out.mono (Nat.le_succ _)))).mono ?_); rintro e w12 ⟨v12, rfl, ho, hb⟩; have HP12 := Lib.hid (LinesM.own_lower ho (Nat.le_trans (Nat.le_of_eq HZ1.out.symm) HB11.out.size)); have HO12 := Lib.hid (LinesM.own_below HO11.out hb); have HB12 := Lib.hid (HB11.out.trans (hb.mono (Nat.le_trans (Nat.le_of_eq HZ1.out.symm) HB11.out.size))); clear ho hb) | (at_builtin; refine wpList_rows rfl _ _ 41 rfl (w.heap.size + 1) 9 i0 (.string ⟨#[]⟩) 1 16 Tryd.underlying41 Hi.out Hz0.out Hz1.out Hz2.out rfl (by decide) _ _ _ rfl HO12.out _ _ _ rfl HP12.out (ones_strs _) (by have h1 := HM1.out; have h2 := HM2.out; unfold maxLen; omega) (by have h1 := HM1.out; have h2 := HM2.out; omega) (Nat.le_trans (Nat.le_of_eq HZ1.out.symm) HB12.out.size) ?_; intro v13 w13 hown hgn; have HGw13 := Lib.hid hgn; have HO13 := Lib.hid hown; have HB13 := Lib.hid (LinesM.below_grown HB12.out HO12.out hgn (Nat.le_trans (Nat.le_of_eq HZ1.out.symm) HB12.out.size) (Nat.le_refl _)); clear hown hgn))
  all_goals
    go_ret
    refine ⟨_, rfl, row_eq (LinesM.own_lower HO13.out (Nat.le_succ w.heap.size)) (by simp <;> omega) (by simp [LinesM.strs]), HB01.out.trans (HB13.out.mono (Nat.le_succ _))⟩
set_option maxRecDepth 100000 in
set_option maxHeartbeats 16000000 in
theorem instrWords_1no (lo hi : Nat) (w : World) (op : Int) (nm : Wd) (sd z : ByteArray) (l : List Arg) (ab ao : Nat) (B2 B3 : Option Addr) (n cap k2 c2 k3 c3 : Nat) (l0 km : Int) (hx : Args lo hi w (.slice (some ⟨ab, ao, none⟩) n cap) l) (hn : n = l.length) (hh : hi ≤ w.heap.size) (hcap : n ≤ cap) (hI : ∀ a ∈ l, argI a) (hl : n ≤ 1048576) (hL : LaidS w) (hfo : formV op = (⟨z.data.toList, false, false, l0, km⟩, true)) (ha : aheadV op = 1) (hk : 1 ≤ n) (e0 : sd.toList.isEmpty = true) :
    Calls Tryd.prog 105 #[.agg #[i64 op, .string sd, str nm, .slice (some ⟨ab, ao, none⟩) n cap, .slice B2 k2 c2, .slice B3 k3 c3]] w (WordsP w ((z.data.toList :: ((l.take 1).map putA ++ ([] ++ (l.drop 1).map putA))))) := by
  obtain ⟨i0, hi0, hz0, hz1, hz2⟩ := info_parts s_info
  have Hi := Lib.hid hi0
  have Hz0 := Lib.hid hz0
  have Hz1 := Lib.hid hz1
  have Hz2 := Lib.hid hz2
  have QA := Lib.hid (ahead_to op 1 ha)
  have QO := Lib.hid fun w => of_as op z _ _ l0 km true hfo w
  have HL := Lib.hid hL
  have HX := Lib.hid hx
  have HI := Lib.hid hI
  have HN := Lib.hid hn
  have QP1 := Lib.hid fun (w' : World) (hb : Below w.heap.size w w') => puts_any lo hi w' _ (l.take 1) (Args.move (Still.of_below (hb.mono hh)) (args_take hx hk hcap)) (Nat.le_trans hh hb.size) (fun a ha => hI a (List.mem_of_mem_take ha)) (by rw [List.length_take]; omega)
  have QP2 := Lib.hid fun (w' : World) (hb : Below w.heap.size w w') => puts_any lo hi w' _ (l.drop 1) (Args.move (Still.of_below (hb.mono hh)) (args_drop (c := cap - 1) hx hk hk (by omega))) (Nat.le_trans hh hb.size) (fun a ha => hI a (List.mem_of_mem_drop ha)) (by rw [List.length_drop]; omega)
  have QP3 := Lib.hid fun (w' : World) (hc : cap - 1 = 0) (hb : Below w.heap.size w w') => puts_any lo hi w' _ (l.drop 1) (Args.move (Still.of_below (hb.mono hh)) (args_end (A2 := some ⟨ab, ao, none⟩) hx hc hk hcap)) (Nat.le_trans hh hb.size) (fun a ha => hI a (List.mem_of_mem_drop ha)) (by rw [List.length_drop]; omega)
  have HM1 : Hid (((l.take 1).map putA).length ≤ 1048576) := Lib.hid (by rw [List.length_map, List.length_take]; omega)
  have HM2 : Hid (((l.drop 1).map putA).length ≤ 1048576) := Lib.hid (by rw [List.length_map]; rw [List.length_drop]; omega)
  clear hi0 hz0 hz1 hz2 hfo hL hx hI hn ha
  have HB0 := Lib.hid ((Below.refl w.heap.size w).alloc (Nat.le_refl _) (.cells #[i64 op, .string sd, str nm, .slice (some ⟨ab, ao, none⟩) n cap, .slice B2 k2 c2, .slice B3 k3 c3] 72))
  obtain ⟨W1, hW1⟩ : ∃ W1, w.alloc (.cells #[i64 op, .string sd, str nm, .slice (some ⟨ab, ao, none⟩) n cap, .slice B2 k2 c2, .slice B3 k3 c3] 72) = W1 := ⟨_, rfl⟩
  have hz1 : W1.heap.size = w.heap.size + 1 := by rw [← hW1]; simp
  have HZ1 := Lib.hid hz1
  have HW1 := Lib.hid hW1
  have HO1 : Hid (Own W1 w.heap.size 72 [i64 op, .string sd, str nm, .slice (some ⟨ab, ao, none⟩) n cap, .slice B2 k2 c2, .slice B3 k3 c3]) := Lib.hid (by rw [← hW1]; exact Own.made w 72 [i64 op, .string sd, str nm, .slice (some ⟨ab, ao, none⟩) n cap, .slice B2 k2 c2, .slice B3 k3 c3])
  have HB01 : Hid (Below w.heap.size w W1) := Lib.hid (by rw [← hW1]; exact HB0.out)
  clear hz1 hW1
  go_enter Tryd.func105, Tryd.ntmps105
  go_wp2_with fail
  rw [HW1.out]
  refine (QO.out _ (HL.out.below HB01.out (Nat.le_refl _))).mono ?_; rintro e w5 ⟨rfl, hb5⟩
  obtain ⟨v3, hv3, HO5⟩ : ∃ v3, Value.slice none 0 0 = v3 ∧ Hid (World.ownsRow (w5.alloc (.cells #[.string z, .bool false, .bool false, .int .i64 l0, .int .i64 km] 186)) (w.heap.size + 1) 9 1 v3 0 []) := ⟨_, rfl, Lib.hid (World.ownsRow_nil _ _ _ _)⟩
  rw [hv3]
  clear hv3
  have HB5 : Hid (Below (w.heap.size + 1) W1 w5) := Lib.hid (hb5.mono (by rw [HZ1.out]; omega))
  have hs5 : w.heap.size + 1 ≤ w5.heap.size := by have := hb5.size; rw [HZ1.out] at this; omega
  have HB6 := Lib.hid (HB5.out.alloc hs5 (.cells #[.string z, .bool false, .bool false, .int .i64 l0, .int .i64 km] 186))
  have HOF := Lib.hid (Own.made w5 186 [.string z, .bool false, .bool false, .int .i64 l0, .int .i64 km])
  have HS5 : Hid (w.heap.size < w5.heap.size) := Lib.hid (by omega)
  clear hb5
  go_wp2_with (first | ((with_reducible refine (QA.out _).mono ?_); rintro e w0 ⟨rfl, rfl⟩) | (at_builtin; refine LinesM.wpList_push_at rfl _ _ 41 rfl (w.heap.size + 1) 9 i0 (.string ⟨#[]⟩) 1 16 Tryd.underlying41 Hi.out Hz0.out Hz1.out Hz2.out rfl (by decide) _ _ _ rfl HO5.out [.string z] (w5.heap.size + 1) (by simp) rfl rfl (by simp [Value.oneCell']) (by have h1 := HM1.out; have h2 := HM2.out; unfold maxLen; omega) (by have h1 := HM1.out; have h2 := HM2.out; omega) (Nat.le_trans (Nat.le_of_eq HZ1.out.symm) HB6.out.size) ?_; intro v7 w7 hown hgn; have HGw7 := Lib.hid hgn; have HO7 := Lib.hid hown; have HB7 := Lib.hid (LinesM.below_grown HB6.out HO5.out hgn (Nat.le_trans (Nat.le_of_eq HZ1.out.symm) HB6.out.size) (Nat.le_refl _)); clear hown hgn; have HOF7 := Lib.hid (keep_f HOF.out (by decide) HO5.out HGw7.out); have g0 := own_hold6 HO1.out HB7.out (Nat.lt_succ_self _) 0 rfl; have g1 := own_hold6 HO1.out HB7.out (Nat.lt_succ_self _) 1 rfl; have g2 := own_hold6 HO1.out HB7.out (Nat.lt_succ_self _) 2 rfl; have g3 := own_hold6 HO1.out HB7.out (Nat.lt_succ_self _) 3 rfl; have g4 := own_hold6 HO1.out HB7.out (Nat.lt_succ_self _) 4 rfl; have g5 := own_hold6 HO1.out HB7.out (Nat.lt_succ_self _) 5 rfl) | ((with_reducible refine (QP1.out _ (HB01.out.trans (HB7.out.mono (Nat.le_succ _)))).mono ?_); rintro e w8 ⟨v8, rfl, ho, hb⟩; have HP8 := Lib.hid (LinesM.own_lower ho (Nat.le_trans (Nat.le_of_eq HZ1.out.symm) HB7.out.size)); have HO8 := Lib.hid (LinesM.own_below HO7.out hb); have HB8 := Lib.hid (HB7.out.trans (hb.mono (Nat.le_trans (Nat.le_of_eq HZ1.out.symm) HB7.out.size))); have HOF8 := Lib.hid (HOF7.out.below hb HOF7.out.lt); clear ho hb) | (at_builtin; refine wpList_rows rfl _ _ 41 rfl (w.heap.size + 1) 9 i0 (.string ⟨#[]⟩) 1 16 Tryd.underlying41 Hi.out Hz0.out Hz1.out Hz2.out rfl (by decide) _ _ _ rfl HO8.out _ _ _ rfl HP8.out (ones_strs _) (by have h1 := HM1.out; have h2 := HM2.out; unfold maxLen; omega) (by have h1 := HM1.out; have h2 := HM2.out; omega) (Nat.le_trans (Nat.le_of_eq HZ1.out.symm) HB8.out.size) ?_; intro v9 w9 hown hgn; have HGw9 := Lib.hid hgn; have HO9 := Lib.hid hown; have HB9 := Lib.hid (LinesM.below_grown HB8.out HO8.out hgn (Nat.le_trans (Nat.le_of_eq HZ1.out.symm) HB8.out.size) (Nat.le_refl _)); clear hown hgn; have HOF9 := keep_f HOF8.out (by decide) HO8.out HGw9.out; have p2 := HOF9.cell 2; simp only [List.getElem?_cons_succ, List.getElem?_cons_zero] at p2; clear HOF9; clear g0 g1 g2 g3 g4 g5; have g0 := own_hold6 HO1.out HB9.out (Nat.lt_succ_self _) 0 rfl; have g1 := own_hold6 HO1.out HB9.out (Nat.lt_succ_self _) 1 rfl; have g2 := own_hold6 HO1.out HB9.out (Nat.lt_succ_self _) 2 rfl; have g3 := own_hold6 HO1.out HB9.out (Nat.lt_succ_self _) 3 rfl; have g4 := own_hold6 HO1.out HB9.out (Nat.lt_succ_self _) 4 rfl; have g5 := own_hold6 HO1.out HB9.out (Nat.lt_succ_self _) 5 rfl) | ((with_reducible refine (QP2.out _ (HB01.out.trans (HB9.out.mono (Nat.le_succ _)))).mono ?_); rintro e w12 ⟨v12, rfl, ho, hb⟩; have HP12 := Lib.hid (LinesM.own_lower ho (Nat.le_trans (Nat.le_of_eq HZ1.out.symm) HB9.out.size)); have HO12 := Lib.hid (LinesM.own_below HO9.out hb); have HB12 := Lib.hid (HB9.out.trans (hb.mono (Nat.le_trans (Nat.le_of_eq HZ1.out.symm) HB9.out.size))); clear ho hb) | ((with_reducible refine (QP3.out _ (by omega) (HB01.out.trans (HB9.out.mono (Nat.le_succ _)))).mono ?_); rintro e w12 ⟨v12, rfl, ho, hb⟩; have HP12 := Lib.hid (LinesM.own_lower ho (Nat.le_trans (Nat.le_of_eq HZ1.out.symm) HB9.out.size)); have HO12 := Lib.hid (LinesM.own_below HO9.out hb); have HB12 := Lib.hid (HB9.out.trans (hb.mono (Nat.le_trans (Nat.le_of_eq HZ1.out.symm) HB9.out.size))); clear ho hb) | (at_builtin; refine wpList_rows rfl _ _ 41 rfl (w.heap.size + 1) 9 i0 (.string ⟨#[]⟩) 1 16 Tryd.underlying41 Hi.out Hz0.out Hz1.out Hz2.out rfl (by decide) _ _ _ rfl HO12.out _ _ _ rfl HP12.out (ones_strs _) (by have h1 := HM1.out; have h2 := HM2.out; unfold maxLen; omega) (by have h1 := HM1.out; have h2 := HM2.out; omega) (Nat.le_trans (Nat.le_of_eq HZ1.out.symm) HB12.out.size) ?_; intro v13 w13 hown hgn; have HGw13 := Lib.hid hgn; have HO13 := Lib.hid hown; have HB13 := Lib.hid (LinesM.below_grown HB12.out HO12.out hgn (Nat.le_trans (Nat.le_of_eq HZ1.out.symm) HB12.out.size) (Nat.le_refl _)); clear hown hgn))
  all_goals
    go_ret
    refine ⟨_, rfl, row_eq (LinesM.own_lower HO13.out (Nat.le_succ w.heap.size)) (by simp <;> omega) (by simp [LinesM.strs]), HB01.out.trans (HB13.out.mono (Nat.le_succ _))⟩
theorem byt_empty {x : Wd} {s : ByteArray} (hs : s.data.toList = x) : s.toList.isEmpty = (x == []) := by
  rw [ByteArray.toList_eq, hs]; cases x <;> rfl
theorem form_top (op : Int) : (formV op).1.most ≤ 8 := by
  unfold formV
  split
  · simp
  · simp only
    repeat' split
    all_goals simp
theorem form_word {op : Int} (h : (formV op).2 = true) : (formV op).1.word = opWords.getD op.toNat [] := by
  unfold formV at h ⊢
  split at h
  · simp at h
  · rename_i h1
    rw [if_neg h1]
theorem ahead_form {op : Int} (h : (formV op).2 = true) : aheadV op = 0 ∨ (aheadV op = 1 ∧ 1 ≤ (formV op).1.least) := by
  unfold aheadV
  split
  · rename_i h1
    refine .inr ⟨rfl, ?_⟩
    rcases h1 with rfl | rfl
    · decide
    · decide
  · exact .inl rfl
set_option maxHeartbeats 4000000 in
theorem instrWords_any (lo hi : Nat) (w : World) (cs : List Value) (x : Instr) (hx : InstrC lo hi w cs x) (hh : hi ≤ w.heap.size) (hI : ∀ a ∈ x.args, argI a) (hL : LaidS w) (hR : instrR x = true) :
    Calls Tryd.prog 105 #[.agg cs.toArray] w (WordsP w (instrL x)) := by
  obtain ⟨u1, u2, u3, rfl, k1, k2, k3⟩ := hx
  obtain ⟨op, ds, nm, l, fs, os⟩ := x
  simp only at k1 k2 k3 hI ⊢
  unfold instrR at hR
  simp only [Bool.and_eq_true] at hR
  obtain ⟨hf, hd, hn1, hle, ⟨hmo, _⟩, _⟩ := hR
  have hw := form_word hf
  have hah := ahead_form hf
  have hk8 := form_top op
  obtain ⟨⟨⟨fw, d, m, l0, km⟩, t0⟩, hfo⟩ : ∃ r, formV op = r := ⟨_, rfl⟩
  rw [hfo] at hf hd hn1 hle hmo hw hah hk8
  simp only at hf hd hn1 hle hmo hw hah hk8
  subst hf
  have hlen : l.length ≤ 8 := by
    have := of_decide_eq_true hmo
    omega
  have hle' := of_decide_eq_true hle
  have k0 := k1
  obtain ⟨A, n, cap, b, off, rfl, hn, ⟨_, hcap⟩, ha, _⟩ := k1
  obtain ⟨B2, n2, c2, _, _, rfl, _⟩ := k2
  obtain ⟨B3, n3, c3, _, _, rfl, _⟩ := k3
  have hfo' : formV op = (⟨(ByteArray.mk fw.toArray).data.toList, d, m, l0, km⟩, true) := hfo
  have hdn : (ByteArray.mk ds.toArray).toList.isEmpty = (ds == []) := byt_empty rfl
  have hinstr : instrL ⟨op, ds, nm, l, fs, os⟩ = (if ds = [] then [] else [ds, kEq]) ++ (fw :: ((l.take (aheadV op)).map putA ++ ((if m then [nm] else []) ++ (l.drop (aheadV op)).map putA))) := by
    unfold instrL instrW
    simp only [hfo, hw]
    split <;> simp
  rw [hinstr]
  have hds : d = true → ¬ ds = [] := by
    rintro rfl rfl
    simp [noneR, nameV_nil] at hd
  have hds0 : d = false → ds = [] := by
    rintro rfl
    simpa [noneR] using hd
  rcases hah with hK | ⟨hK, h1⟩
  · rw [hK]
    cases d
    · obtain rfl := hds0 rfl
      cases m
      · exact instrWords_0no lo hi w op nm _ _ l A B2 B3 n cap n2 c2 n3 c3 l0 km k0 hn hh hcap hI (by omega) hL hfo' hK (Nat.zero_le _) hdn
      · exact instrWords_0ny lo hi w op nm _ _ l A B2 B3 n cap n2 c2 n3 c3 l0 km k0 hn hh hcap hI (by omega) hL hfo' hK (Nat.zero_le _) hdn
    · have hne := hds rfl
      rw [if_neg hne]
      have e0 : (ByteArray.mk ds.toArray).toList.isEmpty = false := by rw [hdn]; simpa using hne
      cases m
      · exact instrWords_0do lo hi w op nm _ _ l A B2 B3 n cap n2 c2 n3 c3 l0 km k0 hn hh hcap hI (by omega) hL hfo' hK (Nat.zero_le _) e0
      · exact instrWords_0dy lo hi w op nm _ _ l A B2 B3 n cap n2 c2 n3 c3 l0 km k0 hn hh hcap hI (by omega) hL hfo' hK (Nat.zero_le _) e0
  · rw [hK]
    obtain ⟨rfl, _, _⟩ := ha (by omega)
    cases d
    · obtain rfl := hds0 rfl
      cases m
      · exact instrWords_1no lo hi w op nm _ _ l b off B2 B3 n cap n2 c2 n3 c3 l0 km k0 hn hh hcap hI (by omega) hL hfo' hK (by omega) hdn
      · exact instrWords_1ny lo hi w op nm _ _ l b off B2 B3 n cap n2 c2 n3 c3 l0 km k0 hn hh hcap hI (by omega) hL hfo' hK (by omega) hdn
    · have hne := hds rfl
      rw [if_neg hne]
      have e0 : (ByteArray.mk ds.toArray).toList.isEmpty = false := by rw [hdn]; simpa using hne
      cases m
      · exact instrWords_1do lo hi w op nm _ _ l b off B2 B3 n cap n2 c2 n3 c3 l0 km k0 hn hh hcap hI (by omega) hL hfo' hK (by omega) e0
      · exact instrWords_1dy lo hi w op nm _ _ l b off B2 B3 n cap n2 c2 n3 c3 l0 km k0 hn hh hcap hI (by omega) hL hfo' hK (by omega) e0
end Go.Proofs.YtdgmdpphimenjaaDoor.Sh6
