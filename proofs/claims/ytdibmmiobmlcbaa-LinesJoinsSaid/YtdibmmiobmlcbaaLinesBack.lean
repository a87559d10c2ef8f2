/-
  The statements' back and there: lines as the document's, and the other way.
-/
import Derived.Test.YtdibmmiobmlcbaaProg
import Derived.Test.YtdibmmiobmlcbaaLinesMem
import Derived.Lib.Hide
import Derived.Deep.RegionLaw
namespace Go.Proofs.Ytdibmmiobmlcbaa
open Go.RowKit LinesM Mem

theorem rl_info : (Try.prog.info? 41).map (fun i => (i.zero, i.size, i.bytes)) = some (some (.agg #[.int .i64 0, .slice none 0 0]), 2, 32) := by kernel_rfl

/-- 'append(s, x)', one element laid in a new block, as a step of a region that draws its order. -/
theorem step_push {P : Program} {ops : Array Oper} {o : Oper} {a : Act} {w0 w : World} {K : Act → World → Prop} {Q : Exit → Act → World → Prop} {E : Prop} (hg : o.guard = none) (s x : Operand) (t : TypeId)
    (hop : o.op = Op.call { callee := Callee.builtin Builtin.append, args := #[s, x], argTypes := #[t, t] })
    (base : Nat) (e : TypeId) (i : TypeInfo) (z : Value) (size bytes : Nat) (ht : P.underlying t = some (.slice e)) (hi : P.info? e = some i) (hz : i.zero = some z)
    (hsize : i.size = size) (hby : i.bytes = bytes) (hzs : z.cells.size = size) (hsz : 0 < size)
    (v : Value) (n : Nat) (xs : List Value) (hs : a.eval s = v) (hown : w0.ownsRow base e size v n xs)
    (news : List Value) (hw : w = (w0.alloc (.cells news.toArray e)).drew) (hx : a.eval x = .slice (some ⟨w0.heap.size, 0, none⟩) 1 1) (hl : news.length = size) (h1 : ∀ u ∈ news, u.oneCell' = true)
    (h63 : n + 1 ≤ maxLen) (hbytes : (n + 1) * bytes ≤ 140737488355328) (hbase : base ≤ w0.heap.size)
    (hK : ∀ v' w', w'.ownsRow base e size v' (n + 1) (xs ++ news) → w0.grownBy w' v.ownBlock → K (a.put o.dst v') w') :
    if Region.wanted o (yielded ops a.tmps) = true then Oper.wp P o a w K Q else E := by
  have hwt : Region.wanted o (yielded ops a.tmps) = true := by simp [Region.wanted, hg]
  rw [if_pos hwt]
  subst hw
  refine wp_append_own (w := (w0.alloc (.cells news.toArray e)).drew) s x t hop base e i z size bytes ht hi hz hsize hby hzs hsz v n xs hs (hown.alloc (.cells news.toArray e)) ⟨w0.heap.size, 0, none⟩ 1 1 news hx (by omega) ?_ h1 h63 hbytes (by simp; omega) ?_
  · intro j u hu
    have e1 : (⟨w0.heap.size, 0, none⟩ : Addr).add j = ⟨w0.heap.size, j, none⟩ := by unfold Addr.add; split <;> simp_all
    rw [e1, (Own.made w0 e news).drew.cell]
    exact hu
  · intro v' w' h2 h3 _
    refine hK v' w' h2 ⟨h3.os, h3.tape, h3.output, Nat.le_trans (by simp) h3.size, fun k hk hne => ?_⟩
    exact (h3.block k (by simp; omega) hne).trans (heap_alloc_old w0 _ hk)

/-- What handing lines over leaves: the same lines, in a new row. -/
def RowPost (E : TypeId) (W : World) (xs : List ML) (e : Ending) (w' : World) : Prop :=
  ∃ v, e = .returned v ∧ w'.ownsRow W.heap.size E 2 v xs.length (cells xs) ∧ Below W.heap.size W w'

theorem cells_next {xs : List ML} {k : Nat} {x : ML} (h : xs[k]? = some x) : cells (xs.take (k + 1)) = cells (xs.take k) ++ [.int .i64 x.1, x.2.1] := by
  have hk := (List.getElem?_eq_some_iff.1 h)
  obtain ⟨hk, rfl⟩ := hk
  rw [List.take_succ_eq_append_getElem hk, cells_append]; rfl
theorem cells_one {lo hi : Nat} {w : World} {x : ML} (h : Strs lo hi w x.2.1 x.2.2) : ∀ u ∈ [Value.int .i64 x.1, x.2.1], u.oneCell' = true := by
  obtain ⟨A, n, cap, b, off, e, _⟩ := h
  intro u hu
  simp only [List.mem_cons, List.not_mem_nil, or_false] at hu
  rcases hu with rfl | rfl
  · rfl
  · rw [e]; rfl

theorem tl_info : (Try.prog.info? 40).map (fun i => (i.zero, i.size, i.bytes)) = some (some (.agg #[.int .i64 0, .slice none 0 0]), 2, 32) := by kernel_rfl

set_option maxHeartbeats 2000000 in
theorem back_any (lo hi : Nat) (w : World) (v : Value) (xs : List ML) (h : Lins lo hi w v xs) (hh : hi ≤ w.heap.size) (hx : xs.length ≤ 8388608) :
    Calls Try.prog 13 #[v] w (RowPost 41 w xs) := by
  obtain ⟨i0, hi, hz0, hz1, hz2⟩ := info_parts rl_info
  have Hi := Lib.hid hi
  have Hz0 := Lib.hid hz0
  have Hz1 := Lib.hid hz1
  have Hz2 := Lib.hid hz2
  clear hi hz0 hz1 hz2
  obtain ⟨A, n, cap, b, off, rfl, hn, hm, ha, hc⟩ := h
  have HC := Lib.hid hc
  have HA := Lib.hid ha
  have HN := Lib.hid hn
  have hn2 : n ≤ 8388608 := by omega
  clear hc ha hn hx
  go_enter Try.func13, Try.ntmps13
  go_wp2
  go_loopw [3, 4] (fun u i wr => ∃ k : Nat, k ≤ n ∧ i = .int .i64 k ∧ Hid (wr.ownsRow w.heap.size 41 2 u k (cells (xs.take k))) ∧ Hid (Below w.heap.size w wr)) (fun _ i _ => n - (intOf i).toNat)
  case atStart => exact ⟨0, Nat.zero_le _, rfl, Lib.hid (World.ownsRow_nil _ _ _ _), Lib.hid (Below.refl _ _)⟩
  case round =>
    obtain ⟨k, hk, rfl, HO, HB⟩ := hrel
    by_cases hlt : k < n
    · obtain ⟨x, hx⟩ : ∃ x, xs[k]? = some x := ⟨_, List.getElem?_eq_getElem (by have := HN.out; omega)⟩
      obtain ⟨rfl, _, hb⟩ := HA.out (by omega)
      obtain ⟨N, u, ws⟩ := x
      obtain ⟨c1, c2, c3⟩ := HC.out k _ hx
      simp only at c1 c2 c3
      obtain ⟨A1, p1, rfl⟩ := c3.form
      have hb2 : b < w.heap.size := by omega
      have d1 : wr.cell? ⟨b, off + k * 2, none⟩ = some (.int .i64 N) := (HB.out.cell (p := ⟨b, off + k * 2, none⟩) hb2).trans c1
      have d2 : wr.cell? ⟨b, off + k * 2 + 1, none⟩ = some (.slice A1 ws.length p1) := (HB.out.cell (p := ⟨b, off + k * 2 + 1, none⟩) hb2).trans c2
      have HX := Lib.hid hx
      have HS := Lib.hid c3
      clear c1 c2 c3 hx
      go_wp2
      go_region_law (refine step_push (w0 := wr) rfl _ _ 26 rfl w.heap.size 41 i0 (.agg #[.int .i64 0, .slice none 0 0]) 2 32 Try.underlying26 Hi.out Hz0.out Hz1.out Hz2.out rfl (by decide) _ k (cells (xs.take k)) rfl HO.out [.int .i64 N, .slice A1 ws.length p1] rfl rfl rfl (cells_one (x := (N, .slice A1 ws.length p1, ws)) HS.out) (by unfold maxLen; omega) (by omega) HB.out.size ?_; intro v' w2 hown2 hg2; have HO2 := Lib.hid hown2; have HB2 := Lib.hid (below_grown HB.out HO.out hg2 HB.out.size (Nat.le_refl _)); clear hown2 hg2)
      all_goals
        go_wp2
        go_roundw
        case rel => exact ⟨k + 1, by omega, by go_num, Lib.hid (by rw [cells_next HX.out]; exact HO2.out), HB2⟩
        case measure => simp [intOf]; omega
    · obtain rfl : k = n := by omega
      have HO2 := HO.out
      rw [List.take_of_length_le (by have := HN.out; omega)] at HO2
      have HO3 := Lib.hid HO2
      clear HO2
      have HN2 := HN.out
      go_wp2
      go_ret
      exact ⟨_, rfl, by rw [← HN.out]; exact HO3.out, HB.out⟩
set_option maxHeartbeats 2000000 in
theorem there_any (lo hi : Nat) (w : World) (v : Value) (xs : List ML) (h : Lins lo hi w v xs) (hh : hi ≤ w.heap.size) (hx : xs.length ≤ 8388608) :
    Calls Try.prog 16 #[v] w (RowPost 40 w xs) := by
  obtain ⟨i0, hi, hz0, hz1, hz2⟩ := info_parts tl_info
  have Hi := Lib.hid hi
  have Hz0 := Lib.hid hz0
  have Hz1 := Lib.hid hz1
  have Hz2 := Lib.hid hz2
  clear hi hz0 hz1 hz2
  obtain ⟨A, n, cap, b, off, rfl, hn, hm, ha, hc⟩ := h
  have HC := Lib.hid hc
  have HA := Lib.hid ha
  have HN := Lib.hid hn
  have hn2 : n ≤ 8388608 := by omega
  clear hc ha hn hx
  go_enter Try.func16, Try.ntmps16
  go_wp2
  go_loopw [3, 4] (fun u i wr => ∃ k : Nat, k ≤ n ∧ i = .int .i64 k ∧ Hid (wr.ownsRow w.heap.size 40 2 u k (cells (xs.take k))) ∧ Hid (Below w.heap.size w wr)) (fun _ i _ => n - (intOf i).toNat)
  case atStart => exact ⟨0, Nat.zero_le _, rfl, Lib.hid (World.ownsRow_nil _ _ _ _), Lib.hid (Below.refl _ _)⟩
  case round =>
    obtain ⟨k, hk, rfl, HO, HB⟩ := hrel
    by_cases hlt : k < n
    · obtain ⟨x, hx⟩ : ∃ x, xs[k]? = some x := ⟨_, List.getElem?_eq_getElem (by have := HN.out; omega)⟩
      obtain ⟨rfl, _, hb⟩ := HA.out (by omega)
      obtain ⟨N, u, ws⟩ := x
      obtain ⟨c1, c2, c3⟩ := HC.out k _ hx
      simp only at c1 c2 c3
      obtain ⟨A1, p1, rfl⟩ := c3.form
      have hb2 : b < w.heap.size := by omega
      have d1 : wr.cell? ⟨b, off + k * 2, none⟩ = some (.int .i64 N) := (HB.out.cell (p := ⟨b, off + k * 2, none⟩) hb2).trans c1
      have d2 : wr.cell? ⟨b, off + k * 2 + 1, none⟩ = some (.slice A1 ws.length p1) := (HB.out.cell (p := ⟨b, off + k * 2 + 1, none⟩) hb2).trans c2
      have HX := Lib.hid hx
      have HS := Lib.hid c3
      clear c1 c2 c3 hx
      go_wp2
      go_region_law (refine step_push (w0 := wr) rfl _ _ 22 rfl w.heap.size 40 i0 (.agg #[.int .i64 0, .slice none 0 0]) 2 32 Try.underlying22 Hi.out Hz0.out Hz1.out Hz2.out rfl (by decide) _ k (cells (xs.take k)) rfl HO.out [.int .i64 N, .slice A1 ws.length p1] rfl rfl rfl (cells_one (x := (N, .slice A1 ws.length p1, ws)) HS.out) (by unfold maxLen; omega) (by omega) HB.out.size ?_; intro v' w2 hown2 hg2; have HO2 := Lib.hid hown2; have HB2 := Lib.hid (below_grown HB.out HO.out hg2 HB.out.size (Nat.le_refl _)); clear hown2 hg2)
      all_goals
        go_wp2
        go_roundw
        case rel => exact ⟨k + 1, by omega, by go_num, Lib.hid (by rw [cells_next HX.out]; exact HO2.out), HB2⟩
        case measure => simp [intOf]; omega
    · obtain rfl : k = n := by omega
      have HO2 := HO.out
      rw [List.take_of_length_le (by have := HN.out; omega)] at HO2
      have HO3 := Lib.hid HO2
      clear HO2
      have HN2 := HN.out
      go_wp2
      go_ret
      exact ⟨_, rfl, by rw [← HN.out]; exact HO3.out, HB.out⟩
end Go.Proofs.Ytdibmmiobmlcbaa
