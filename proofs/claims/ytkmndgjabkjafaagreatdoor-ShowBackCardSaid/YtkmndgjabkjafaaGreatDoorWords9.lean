/-
  Package show: the words of ends, and of instructions, walked.
-/
import Derived.Test.YtkmndgjabkjafaaGreatDoorWordsT
namespace Go.Proofs.YtkmndgjabkjafaaGreatDoor.Sh6
open Go.RowKit Api Syn WordM Mem Rd5

/-- 'append(a, b...)', b read wherever it lies: in a list of operations, and as a step of a region that draws its order. -/
theorem wpList_read {P : Program} {w : World} {ops : Array Oper} {rest : List Oper} {o : Oper} {a : Act} {Q : Exit → Act → World → Prop} (hgd : o.guard = none) (s x : Operand) (t : TypeId)
    (ho : o.op = .call { callee := .builtin .append, args := #[s, x], argTypes := #[t, t] })
    (base : Nat) (e : TypeId) (i : TypeInfo) (z : Value) (size bytes : Nat) (ht : P.underlying t = some (.slice e)) (hi : P.info? e = some i) (hz : i.zero = some z)
    (hsize : i.size = size) (hby : i.bytes = bytes) (hzs : z.cells.size = size) (hsz : 0 < size)
    (v : Value) (n : Nat) (xs : List Value) (hs : a.eval s = v) (hown : w.ownsRow base e size v n xs)
    (b off m cap : Nat) (news : List Value) (hx : a.eval x = .slice (some ⟨b, off, none⟩) m cap) (hl : news.length = m * size) (hc : ∀ j u, news[j]? = some u → w.cell? ⟨b, off + j, none⟩ = some u) (h1 : ∀ u ∈ news, u.oneCell' = true)
    (h63 : n + m ≤ maxLen) (hbytes : (n + m) * bytes ≤ 140737488355328) (hbase : base ≤ w.heap.size)
    (h : ∀ v' w', w'.ownsRow base e size v' (n + m) (xs ++ news) → Below base w w' → wpList P ops Q rest (a.put o.dst v') w') :
    wpList P ops Q (o :: rest) a w := by
  refine wpList_append_own (w := w) hgd s x t ho base e i z size bytes ht hi hz hsize hby hzs hsz v n xs hs hown ⟨b, off, none⟩ m cap news hx hl (fun j u hu => ?_) h1 h63 hbytes hbase ?_
  · have e1 : (⟨b, off, none⟩ : Addr).add j = ⟨b, off + j, none⟩ := by unfold Addr.add; split <;> simp_all
    rw [e1]; exact hc j u hu
  · intro v' w' h2 h3 _
    exact h v' w' h2 ((Below.refl base w).grown h3 hbase (fun k hk => (hown.lt k hk).1))
theorem step_read {P : Program} {ops : Array Oper} {o : Oper} {a : Act} {w : World} {K : Act → World → Prop} {Q : Exit → Act → World → Prop} {E : Prop} (hg : o.guard = none) (s x : Operand) (t : TypeId)
    (hop : o.op = Op.call { callee := Callee.builtin Builtin.append, args := #[s, x], argTypes := #[t, t] })
    (base : Nat) (e : TypeId) (i : TypeInfo) (z : Value) (size bytes : Nat) (ht : P.underlying t = some (.slice e)) (hi : P.info? e = some i) (hz : i.zero = some z)
    (hsize : i.size = size) (hby : i.bytes = bytes) (hzs : z.cells.size = size) (hsz : 0 < size)
    (v : Value) (n : Nat) (xs : List Value) (hs : a.eval s = v) (hown : w.ownsRow base e size v n xs)
    (b off m cap : Nat) (news : List Value) (hx : a.eval x = .slice (some ⟨b, off, none⟩) m cap) (hl : news.length = m * size) (hc : ∀ j u, news[j]? = some u → w.cell? ⟨b, off + j, none⟩ = some u) (h1 : ∀ u ∈ news, u.oneCell' = true)
    (h63 : n + m ≤ maxLen) (hbytes : (n + m) * bytes ≤ 140737488355328) (hbase : base ≤ w.heap.size)
    (hK : ∀ v' w', w'.ownsRow base e size v' (n + m) (xs ++ news) → Below base w w' → K (a.put o.dst v') w') :
    if Region.wanted o (yielded ops a.tmps) = true then Oper.wp P o a w K Q else E := by
  have hwt : Region.wanted o (yielded ops a.tmps) = true := by simp [Region.wanted, hg]
  rw [if_pos hwt]
  refine wp_append_own (w := w) s x t hop base e i z size bytes ht hi hz hsize hby hzs hsz v n xs hs hown ⟨b, off, none⟩ m cap news hx hl (fun j u hu => ?_) h1 h63 hbytes hbase ?_
  · have e1 : (⟨b, off, none⟩ : Addr).add j = ⟨b, off + j, none⟩ := by unfold Addr.add; split <;> simp_all
    rw [e1]; exact hc j u hu
  · intro v' w' h2 h3 _
    exact hK v' w' h2 ((Below.refl base w).grown h3 hbase (fun k hk => (hown.lt k hk).1))
set_option maxRecDepth 100000 in
set_option maxHeartbeats 8000000 in
theorem retWords (w : World) (ak an n : Int) (a : Wd) (B1 : Option Addr) (c1 m : Nat) (s : ByteArray) (hI : argI ⟨ak, a, an⟩) (hs : s.data.toList = putA ⟨ak, a, an⟩) :
    Calls Tryz.prog 107 #[.agg #[i64 3, i64 ak, str a, i64 an, .slice B1 m c1, i64 n]] w (WordsP w [kRet, putA ⟨ak, a, an⟩]) := by
  have QN := Lib.hid (put_as ⟨ak, a, an⟩ hI s hs)
  have HS := Lib.hid hs
  clear hI hs
  go_enter Tryz.func107, Tryz.ntmps107
  go_wp2_with fail
  refine (QN.out _).mono ?_; rintro e w5 ⟨rfl, hb5⟩
  have HB5 := Lib.hid (z_below hb5)
  clear hb5
  go_wp2
  go_ret
  exact ⟨_, rfl, made_row (base := w.heap.size) (g := w5.heap.size) (w := w5) [.string ⟨#[114, 101, 116]⟩, .string s] _ rfl rfl HB5.out.size (by simp [LinesM.strs, ← HS.out, kRet]) (by simp), HB5.out.alloc HB5.out.size _⟩
set_option maxRecDepth 100000 in
set_option maxHeartbeats 8000000 in
theorem trapWords (w : World) (ak an n : Int) (a : Wd) (B1 : Option Addr) (c1 m : Nat) (s : ByteArray) (hI : NumM.In n) (hs : s.data.toList = NumM.dec n) :
    Calls Tryz.prog 107 #[.agg #[i64 4, i64 ak, str a, i64 an, .slice B1 m c1, i64 n]] w (WordsP w [kTrap, NumM.dec n]) := by
  have QN := Lib.hid (num_as n hI s hs)
  have HS := Lib.hid hs
  clear hI hs
  go_enter Tryz.func107, Tryz.ntmps107
  go_wp2_with fail
  refine (QN.out _).mono ?_; rintro e w5 ⟨rfl, hb5⟩
  have HB5 := Lib.hid (z_below hb5)
  clear hb5
  go_wp2
  go_ret
  exact ⟨_, rfl, made_row (base := w.heap.size) (g := w5.heap.size) (w := w5) [.string ⟨#[116, 114, 97, 112]⟩, .string s] _ rfl rfl HB5.out.size (by simp [LinesM.strs, ← HS.out, kTrap]) (by simp), HB5.out.alloc HB5.out.size _⟩
set_option maxRecDepth 100000 in
set_option maxHeartbeats 8000000 in
theorem jumpWords (w : World) (ak an n : Int) (a x : Wd) (b off c1 : Nat) (hb : b < w.heap.size) (hc : w.cell? ⟨b, off, none⟩ = some (str x)) :
    Calls Tryz.prog 107 #[.agg #[i64 1, i64 ak, str a, i64 an, .slice (some ⟨b, off, none⟩) 1 c1, i64 n]] w (WordsP w [kJump, x]) := by
  obtain ⟨i0, hi0, hz0, hz1, hz2⟩ := info_parts s_info
  have Hi := Lib.hid hi0
  have Hz0 := Lib.hid hz0
  have Hz1 := Lib.hid hz1
  have Hz2 := Lib.hid hz2
  clear hi0 hz0 hz1 hz2
  go_enter Tryz.func107, Tryz.ntmps107
  have HM2 := Lib.hid (made_row (base := w.heap.size) (g := w.heap.size + 1) (w := w.alloc (.cells #[i64 1, i64 ak, str a, i64 an, .slice (some ⟨b, off, none⟩) 1 c1, i64 n] 45)) [.string ⟨#[106, 117, 109, 112]⟩] [kJump] rfl (by simp) (by simp) rfl (by simp))
  have HBD := Lib.hid (((Below.refl w.heap.size w).alloc (Nat.le_refl _) (.cells #[i64 1, i64 ak, str a, i64 an, .slice (some ⟨b, off, none⟩) 1 c1, i64 n] 45)).alloc (by simp) (.cells #[.string ⟨#[106, 117, 109, 112]⟩] 9))
  have HCX := Lib.hid hc
  clear hc
  go_wp2_with (at_builtin; refine wpList_read rfl _ _ 43 rfl w.heap.size 9 i0 (.string ⟨#[]⟩) 1 16 Tryz.underlying43 Hi.out Hz0.out Hz1.out Hz2.out rfl (by decide) _ 1 _ rfl HM2.out b off 1 c1 [str x] rfl rfl (fun j u hu => by (match j, hu with | 0, hu => (injection hu with hu; subst hu; exact (HBD.out.cell (p := ⟨b, off, none⟩) hb).trans HCX.out) | j + 1, hu => simp at hu)) (by simp [Value.oneCell']) (by unfold maxLen; omega) (by omega) HBD.out.size ?_; intro v' w6 hown6 hb6; have HO6 := Lib.hid hown6; have HB6 := Lib.hid (HBD.out.trans hb6); clear hown6 hb6)
  go_ret
  exact ⟨_, rfl, HO6.out, HB6.out⟩
set_option maxRecDepth 100000 in
set_option maxHeartbeats 8000000 in
theorem branchWords (w : World) (ak an n : Int) (a x y : Wd) (b off c1 : Nat) (hb : b < w.heap.size) (hc : w.cell? ⟨b, off, none⟩ = some (str x)) (hc2 : w.cell? ⟨b, off + 1, none⟩ = some (str y)) (s : ByteArray) (hI : argI ⟨ak, a, an⟩) (hs : s.data.toList = putA ⟨ak, a, an⟩) :
    Calls Tryz.prog 107 #[.agg #[i64 2, i64 ak, str a, i64 an, .slice (some ⟨b, off, none⟩) 2 c1, i64 n]] w (WordsP w [kBranch, putA ⟨ak, a, an⟩, x, y]) := by
  obtain ⟨i0, hi0, hz0, hz1, hz2⟩ := info_parts s_info
  have Hi := Lib.hid hi0
  have Hz0 := Lib.hid hz0
  have Hz1 := Lib.hid hz1
  have Hz2 := Lib.hid hz2
  have QN := Lib.hid (put_as ⟨ak, a, an⟩ hI s hs)
  have HS := Lib.hid hs
  clear hi0 hz0 hz1 hz2 hI hs
  go_enter Tryz.func107, Tryz.ntmps107
  go_wp2_with fail
  have HCX := Lib.hid hc
  have HCY := Lib.hid hc2
  clear hc hc2
  go_region_law (first
    | (go_simp; go_at_call 145; (with_reducible refine (QN.out _).mono ?_); rintro e w5 ⟨rfl, hb5⟩; have hb7 := (Below.refl _ _).drew.trans hb5; have p4 := own_hold6 (Own.made w 45 [i64 2, i64 ak, str a, i64 an, .slice (some ⟨b, off, none⟩) 2 c1, i64 n]) hb7 (by simp) 4 rfl; have hb8 := ((Below.refl w.heap.size w).alloc (Nat.le_refl _) (.cells #[i64 2, i64 ak, str a, i64 an, .slice (some ⟨b, off, none⟩) 2 c1, i64 n] 45)).trans (hb7.mono (by simp)); have l0 : w.heap.size < w5.heap.size := World.block_lt_of_cell? w5 _ p4; have HM5 := Lib.hid (made_row (base := w.heap.size) (g := w5.heap.size) (w := w5) [.string ⟨#[98, 114, 97, 110, 99, 104]⟩, .string s] [kBranch, putA ⟨ak, a, an⟩] rfl rfl hb8.size (by simp [LinesM.strs, ← HS.out, kBranch]) (by simp)); have HB5 := Lib.hid (hb8.alloc hb8.size (.cells #[.string ⟨#[98, 114, 97, 110, 99, 104]⟩, .string s] 9)); clear hb5 hb7 hb8)
    | (refine step_read rfl _ _ 43 (by rfl) w.heap.size 9 i0 (.string ⟨#[]⟩) 1 16 Tryz.underlying43 Hi.out Hz0.out Hz1.out Hz2.out rfl (by decide) _ 2 _ (by rfl) HM5.out b off 2 c1 [str x, str y] (by rfl) rfl (fun j u hu => by (match j, hu with | 0, hu => (injection hu with hu; subst hu; exact (HB5.out.cell (p := ⟨b, off, none⟩) hb).trans HCX.out) | 1, hu => (injection hu with hu; subst hu; exact (HB5.out.cell (p := ⟨b, off + 1, none⟩) hb).trans HCY.out) | j + 2, hu => simp at hu)) (by simp [Value.oneCell']) (by unfold maxLen; omega) (by omega) HB5.out.size ?_; intro v' w6 hown6 hb6; have HO6 := Lib.hid hown6; have HB6 := Lib.hid (HB5.out.trans hb6); clear hown6 hb6))
  all_goals
    go_wp2
    go_ret
    exact ⟨_, rfl, HO6.out, HB6.out⟩
theorem dests_one {l : List Wd} (h : destsR 1 l = true) : ∃ x, l = [x] := by
  simp only [destsR, Bool.and_eq_true, decide_eq_true_eq] at h
  match l, h.1 with
  | [x], _ => exact ⟨x, rfl⟩
theorem dests_two {l : List Wd} (h : destsR 2 l = true) : ∃ x y, l = [x, y] := by
  simp only [destsR, Bool.and_eq_true, decide_eq_true_eq] at h
  match l, h.1 with
  | [x, y], _ => exact ⟨x, y, rfl⟩
theorem endWords_any (lo hi : Nat) (w : World) (cs : List Value) (x : Api.Term) (hx : TermC lo hi w cs x) (hh : hi ≤ w.heap.size) (hI : finI x) (hR : finR x = true) :
    Calls Tryz.prog 107 #[.agg cs.toArray] w (WordsP w (endL x)) := by
  obtain ⟨u, rfl, kd⟩ := hx
  obtain ⟨k, ⟨ak, a, an⟩, dl, n⟩ := x
  obtain ⟨hI1, hI2⟩ := hI
  simp only at kd hI1 hI2 ⊢
  obtain ⟨A, m, cap, b, off, rfl, hn, hm, ha, hc⟩ := kd
  unfold finR at hR
  unfold endL
  simp only at hR ⊢
  split at hR
  · rename_i hk
    subst hk
    rw [if_pos rfl]
    simp only [Bool.and_eq_true] at hR
    obtain ⟨x, rfl⟩ := dests_one hR.2.1
    obtain rfl : m = 1 := hn
    obtain ⟨rfl, _, hb⟩ := ha (by omega)
    obtain ⟨cs, _, q, rfl⟩ := hc 0 x rfl
    exact jumpWords w ak an n a x b off cap (by omega) (q 0 _ rfl)
  · rename_i h1
    rw [if_neg h1]
    split at hR
    · rename_i hk
      subst hk
      rw [if_pos rfl]
      simp only [Bool.and_eq_true] at hR
      obtain ⟨x, y, rfl⟩ := dests_two hR.2.1
      obtain rfl : m = 2 := hn
      obtain ⟨rfl, _, hb⟩ := ha (by omega)
      obtain ⟨cs, _, q, rfl⟩ := hc 0 x rfl
      obtain ⟨cs, _, q2, rfl⟩ := hc 1 y rfl
      exact branchWords w ak an n a x y b off cap (by omega) (q 0 _ rfl) (q2 0 _ rfl) ⟨(putA ⟨ak, a, an⟩).toArray⟩ hI1 rfl
    · rename_i h2
      rw [if_neg h2]
      split at hR
      · rename_i hk
        subst hk
        rw [if_pos rfl]
        exact retWords w ak an n a A cap m ⟨(putA ⟨ak, a, an⟩).toArray⟩ hI1 rfl
      · rename_i h3
        rw [if_neg h3]
        split at hR
        · rename_i hk
          subst hk
          exact trapWords w ak an n a A cap m ⟨(NumM.dec n).toArray⟩ hI2 rfl
        · cases hR
end Go.Proofs.YtkmndgjabkjafaaGreatDoor.Sh6
