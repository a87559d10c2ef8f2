/-
  Layer 12: what is live at the last place of a block.
-/
import Derived.Test.YtaeklfljibjpiaaLvFollow
import Derived.Maps.RangeWalk
import Derived.Sort.MapsRangeIn
namespace Go.Proofs.Ytaeklfljibjpiaa.Lv12
open Go.RowKit Api Mem Sh8 Go.Maps

/-- what is live at the last place of block i. -/
def lastS (E : List Edge) (S : Nat → Wd → Bool) (i : Nat) (y : Wd) : Bool := S (4 * i + 2) y || (dsts E i).any fun t => S (4 * t + 3) y && !S (4 * t) y
def lastN (l : List Nat) (S : Nat → Wd → Bool) (i k : Nat) (y : Wd) : Bool := S (4 * i + 2) y || (l.take k).any fun t => S (4 * t + 3) y && !S (4 * t) y
theorem lastN_zero (l : List Nat) (S : Nat → Wd → Bool) (i : Nat) : lastN l S i 0 = S (4 * i + 2) := funext fun y => by simp [lastN]
theorem lastN_next {l : List Nat} {k t : Nat} (h : l[k]? = some t) (S : Nat → Wd → Bool) (i : Nat) (y : Wd) : lastN l S i (k + 1) y = (lastN l S i k y || (S (4 * t + 3) y && !S (4 * t) y)) := by
  unfold lastN
  rw [take_at h, List.any_append]
  simp [Bool.or_assoc]
/-- what the copy holds while a set is gone through: what it held, and what is behind. -/
def GoT (T0 P : Wd → Bool) (D : DataW Unit) (left : Lit → Bool) (T : Wd → Bool) : Prop := (∀ kl, left kl = true → has D kl = true) ∧ ∀ y, T y = (T0 y || (has D (kS y) && !left (kS y) && !P y))
theorem GoT.start (T0 P : Wd → Bool) (D : DataW Unit) : GoT T0 P D (has D) T0 := ⟨fun _ h => h, fun y => by cases has D (kS y) <;> simp⟩
theorem same_kS (y x : Wd) : (kS y).sameKey (kS x) = decide (y = x) := by
  by_cases e : y = x
  · subst e; simp [Lit.sameKey]
  · simp [Lit.sameKey, e]
theorem GoT.skip {T0 P : Wd → Bool} {D : DataW Unit} {left : Lit → Bool} {T : Wd → Bool} (h : GoT T0 P D left T) {x : Wd} (hp : P x = true) : GoT T0 P D (fun z => left z && !z.sameKey (kS x)) T := by
  refine ⟨fun kl hk => h.1 kl (by simp only [Bool.and_eq_true] at hk; exact hk.1), fun y => ?_⟩
  rw [h.2 y]
  show _ = (_ || has D (kS y) && !(left (kS y) && !(kS y).sameKey (kS x)) && !P y)
  rw [same_kS]
  by_cases e : y = x
  · subst e; simp [hp]
  · simp [e]
theorem GoT.add {T0 P : Wd → Bool} {D : DataW Unit} {left : Lit → Bool} {T : Wd → Bool} (h : GoT T0 P D left T) {x : Wd} (hx : left (kS x) = true) (hp : P x = false) : GoT T0 P D (fun z => left z && !z.sameKey (kS x)) (addS T x) := by
  refine ⟨fun kl hk => h.1 kl (by simp only [Bool.and_eq_true] at hk; exact hk.1), fun y => ?_⟩
  unfold addS
  rw [h.2 y]
  show _ = (_ || has D (kS y) && !(left (kS y) && !(kS y).sameKey (kS x)) && !P y)
  rw [same_kS]
  by_cases e : y = x
  · subst e; simp [hp, h.1 _ hx]
  · simp [e]
theorem GoT.fin {T0 P : Wd → Bool} {D : DataW Unit} {left : Lit → Bool} {T : Wd → Bool} (h : GoT T0 P D left T) (h0 : ∀ kl, left kl = false) : ∀ y, T y = (T0 y || (has D (kS y) && !P y)) := fun y => by rw [h.2 y, h0]; simp
section
variable {P : Program} (w : World) {ops : Array Oper} {rest : List Oper} {o : Oper} {a : Go.Act} {Q : Exit → Go.Act → World → Prop}
/-- the step through a set of names. -/
theorem next_set (hg : o.guard = none) (it : Operand) (hop : o.op = Op.next it false) (k : TypeId) (K : Keyed P k) (hk : P.underlying k = some .string) (b r n : Nat) (D : DataW Unit) (left : Lit → Bool) (cnt : Nat)
    (hit : a.eval it = .pointer (some ⟨r, 0, none⟩)) (h : w.ranges P k unitElem b r n D left cnt)
    (hDone : cnt = 0 → (∀ kl, left kl = false) → wpList P ops Q rest (a.put o.dst (.tuple #[.bool false])) w)
    (hMore : ∀ (x : Wd) (w' : World) (cnt' : Nat), left (kS x) = true → w'.ranges P k unitElem b r n D (fun z => left z && !z.sameKey (kS x)) cnt' → cnt' < cnt →
      w.grownBy w' (some r) → w'.heap.size = w.heap.size → (Instr.entry (.pointer (some ⟨r, 0, none⟩))).run P w' = .ok (.tuple #[str x, .agg #[]]) w' → wpList P ops Q rest (a.put o.dst (.tuple #[.bool true, str x, .agg #[]])) w') :
    wpList P ops Q (o :: rest) a w :=
  wpList_next_ranges w hg it hop k K unitElem str (fun _ : Unit => .agg #[])
    (fun key kl hkey => by
      obtain ⟨x, rfl, _, _⟩ := Maps.keyOf_str hk hkey
      exact ⟨x, rfl⟩)
    (fun v y hv => by
      obtain ⟨d, ps⟩ := y
      obtain ⟨rfl, _⟩ := unitElem_inv hv
      exact ⟨(), rfl⟩)
    b r n D left cnt hit h hDone (fun x c kl y w' cnt' hkey hlk hv hat hrg hlt hgr hsz hen => by
      obtain ⟨x', e1, rfl, _⟩ := Maps.keyOf_str hk hkey
      have e2 : x.toArray = x'.toArray := by
        have : (⟨x.toArray⟩ : ByteArray) = ⟨x'.toArray⟩ := by injection e1
        injection this
      obtain rfl : x = x' := by simpa using congrArg Array.toList e2
      exact hMore x w' cnt' hlk hrg hlt hgr hsz hen)
end
set_option maxRecDepth 100000 in
set_option maxHeartbeats 8000000 in
theorem last_any {U : List Wd} (hU : UOk U) {w : World} {base B n : Nat} {c : Nat → Nat} {S : Nat → Wd → Bool} {vi : Nat → Value} {E : List Edge} {vg : Nat → Value} {gr : Nat → List Wd} (h : St U w base B n n c S vi (LI E) vg gr) (hb : base ≤ w.heap.size) {i : Nat} (hi : i < n) (hE : ∀ e ∈ E, e.1 < n ∧ e.2 < n) (hEl : E.length ≤ 1000000000000) (hn : n ≤ 1000000) :
    Calls Try.prog 24 #[.slice (some ⟨B, 0, none⟩) n n, .int .i64 (i : Int)] w fun e w' => ∃ g, e = .returned (.map (some g)) ∧ w.heap.size ≤ g ∧ SetO U w' g (lastS E S i) ∧ Below w.heap.size w w' := by
  have n4 := (h.cell hi (show 4 < 7 by omega)).trans (congrArg some (show FF n c vi vg i 4 = .map (some (c (4 * i + 2))) from rfl))
  have HQ := Lib.hid (mclone_any (h.ms.set (4 * i + 2) ⟨by omega, fun h => by omega⟩))
  have HST := Lib.hid h
  have HE := Lib.hid hE
  obtain ⟨F, hF⟩ : ∃ F, dsts E i = F := ⟨_, rfl⟩
  have hFl : F.length ≤ 1000000000000 := by
    rw [← hF]
    unfold dsts
    rw [List.length_map]
    exact Nat.le_trans (List.length_filter_le _ _) hEl
  have HF := Lib.hid hF
  clear h hE hEl hF
  go_enter Try.func24, Try.ntmps24
  go_wp2_with fail
  refine HQ.out.mono ?_
  rintro e w2 ⟨rfl, h2, b2⟩
  have hst2 := HST.out.below b2
  have hr := hst2.ri.own (2 * i) (by omega)
  rw [LI_even, HF.out, List.length_map, List.map_map] at hr
  obtain ⟨A6, k6, hv6⟩ := row_form hr
  have n0 := (hst2.cell hi (show 0 < 7 by omega)).trans (congrArg some (show FF n c vi vg i 0 = vi (2 * i) from rfl))
  rw [hv6] at n0 hr
  simp only [Nat.add_zero] at n0
  have HR := Lib.hid hr
  have HV6 := Lib.hid hv6
  have HT := Lib.hid (show SetO U w2 w.heap.size (lastN F S i 0) by rw [lastN_zero]; exact h2)
  have HB2 := Lib.hid b2
  clear hst2 hv6 h2 b2 n4 HQ hr
  go_wp2_with fail
  go_loopw [21] (fun iv wr => ∃ k : Nat, k ≤ F.length ∧ iv = .int .i64 k ∧ Hid (SetO U wr w.heap.size (lastN F S i k)) ∧ Hid (Below w.heap.size w2 wr)) (fun iv _ => F.length - (intOf iv).toNat)
  case atStart => exact ⟨0, Nat.zero_le _, rfl, HT, Lib.hid (Below.refl _ _)⟩
  case round =>
  clear HT n0
  obtain ⟨k, hk, rfl, HT, HBr⟩ := hrel
  have hsw : w.heap.size ≤ w2.heap.size := HB2.out.size
  by_cases hlt : k < F.length
  · obtain ⟨t, ht⟩ : ∃ t, F[k]? = some t := ⟨_, List.getElem?_eq_getElem hlt⟩
    have htn : t < n := (HE.out _ (mem_dsts.1 (by rw [HF.out]; exact List.mem_of_getElem? ht))).2
    have hall : Below w.heap.size w wr := HB2.out.trans HBr.out
    have hst := HST.out.below hall
    have hri := hst.ri.own (2 * i) (by omega)
    have hri2 := HR.out
    have hv6 : vi (2 * i) = .slice A6 F.length k6 := by
      have := hst.ri.own (2 * i) (by omega)
      rw [LI_even, HF.out, List.length_map, List.map_map] at this
      exact HV6.out
    rw [LI_even, HF.out, List.length_map, List.map_map, hv6] at hri
    obtain ⟨b6, rfl, hb6, hb66⟩ := own_addr hri hlt
    have n0 := own_at hri (show (F.map _)[k]? = some (i64 (t : Int)) by rw [List.getElem?_map, ht]; rfl)
    have n5 := (hst.cell htn (show 5 < 7 by omega)).trans (congrArg some (show FF n c vi vg t 5 = .map (some (c (4 * t + 3))) from by simp [FF, htn]))
    obtain ⟨D, hD1, hD2, hD3, hD4, hD5, hD6⟩ := (hst.ms.set (4 * t + 3) ⟨by omega, fun _ => by omega⟩).keys
    have HD := Lib.hid hD1
    have HD2 := Lib.hid hD2
    have HNX := Lib.hid (fun y => lastN_next ht S i y)
    have HC := Lib.hid (show (∀ x, OkM n n x → c x < w.heap.size) from fun x hx => (HST.out.ms.set x hx).lt)
    clear hst hri hri2 hv6 ht hD1 hD2 hD3 hD4 hD5 hD6
    go_wp2_with (at_range; refine wpList_range_own _ rfl _ 69 rfl 9 91 lawS Try.underlying69 _ (c (4 * t + 3)) _ D rfl HD.out ?_; intro w0 hrg0 hg0 hs0)
    go_frame
    obtain ⟨rb, hrb⟩ : ∃ r, wr.heap.size = r := ⟨_, rfl⟩
    rw [hrb] at hrg0 hs0 ⊢
    have hb0 : Below wr.heap.size wr w0 := (Below.refl _ _).grown hg0 (Nat.le_refl _) (fun j hj => by cases hj)
    have hrbs : w.heap.size < rb := by have := HT.out.lt; omega
    have HRG0 := Lib.hid hrg0
    have HG0 := Lib.hid (GoT.start (lastN F S i k) (S (4 * t)) D)
    have HT0 := Lib.hid (HT.out.grown hg0 (by simp))
    have HBr0 := Lib.hid (show Below w.heap.size w2 w0 from HBr.out.trans (hb0.mono (by omega)))
    clear hrg0 hg0 hs0 hb0 HT HBr hrb n0 n5
    go_loopw [8] (fun _ wr => ∃ (left : Lit → Bool) (cnt : Nat) (T : Wd → Bool), Hid (wr.ranges Try.prog 9 unitElem (c (4 * t + 3)) rb (size D) D left cnt) ∧ Hid (GoT (lastN F S i k) (S (4 * t)) D left T) ∧ Hid (SetO U wr w.heap.size T) ∧ Hid (Below w.heap.size w2 wr)) (fun _ wr => wr.rangeLeft (c (4 * t + 3)) rb)
    case atStart => exact ⟨_, _, _, HRG0, HG0, HT0, HBr0⟩
    case round =>
    clear HRG0 HG0 HT0 HBr0
    obtain ⟨left, cnt, T, HRG, HGO, HT, HBr⟩ := hrel
    go_wp2_with (at_next; refine next_set _ rfl _ rfl 9 lawS Try.underlying9 (c (4 * t + 3)) rb _ D _ _ rfl HRG.out ?_ ?_)
    · intro hc0 hl0
      have HE9 := Lib.hid (HT.out.same (S' := lastN F S i (k + 1)) (fun y => by rw [HGO.out.fin hl0 y, HD2.out, HNX.out]))
      clear hl0
      go_wp2_with fail
      go_roundw
      case rel => exact ⟨k + 1, by omega, by go_num, HE9, HBr⟩
      case measure => simp [intOf]; omega
    · intro x w1 cnt1 hlx hrg1 hlt1 hg1 hs1 hen
      have hxU : x ∈ U := (HST.out.ms.set (4 * t + 3) ⟨by omega, fun _ => by omega⟩).2 x (by rw [← HD2.out]; exact HGO.out.1 _ hlx)
      have HBr1 := Lib.hid (show Below w.heap.size w2 w1 from HBr.out.grown hg1 (by have := HBr.out.size; omega) (fun j hj => by cases hj; omega))
      have hst1 := HST.out.below (HB2.out.trans HBr1.out)
      have n2 := (hst1.cell htn (show 2 < 7 by omega)).trans (congrArg some (show FF n c vi vg t 2 = .map (some (c (4 * t))) from rfl))
      have HT1 := Lib.hid (HT.out.grown hg1 (by simp only [ne_eq, Option.some.injEq]; omega))
      obtain ⟨d, hd⟩ : ∃ d, S (4 * t) x = d := ⟨_, rfl⟩
      have hqs := has_any (hst1.ms.set (4 * t) ⟨by omega, fun h => by omega⟩) x (hU.nm x hxU)
      rw [hd] at hqs
      have HQ1 := Lib.hid hqs
      have HRG1 := Lib.hid hrg1
      have HDD := Lib.hid hd
      have HLX := Lib.hid hlx
      have HLT := Lib.hid hlt1
      clear hrg1 hlt1 hg1 hs1 hst1 hqs hd hlx
      go_wp2_with fail
      refine HQ1.out.mono ?_
      rintro e w5 ⟨rfl, g5⟩
      have HRG5 := Lib.hid (HRG1.out.kept g5 (by simp) (by simp))
      have HT5 := Lib.hid (HT1.out.grown g5 (by simp))
      have HB5 := Lib.hid (show Below w.heap.size w2 w5 from HBr1.out.grown g5 (by have := HBr1.out.size; omega) (fun j hj => by cases hj))
      clear g5 hen n2 HQ1
      cases d with
      | true =>
        have HG5 := Lib.hid (HGO.out.skip HDD.out)
        go_wp2_with fail
        go_roundw
        case rel => exact ⟨_, cnt1, T, HRG5, HG5, HT5, HB5⟩
        case measure => rw [HRG5.out.left_eq, HRG.out.left_eq]; exact HLT.out
      | false =>
        have HG5 := Lib.hid (HGO.out.add HLX.out HDD.out)
        have HA := Lib.hid (add_any hU HT5.out x hxU)
        have hcl := HC.out (4 * t + 3) ⟨by omega, fun _ => by omega⟩
        go_wp2_with fail
        refine HA.out.mono ?_
        rintro e w7 ⟨rfl, h7, g7⟩
        have HRG7 := Lib.hid (HRG5.out.kept g7 (by simp only [ne_eq, Option.some.injEq]; omega) (by simp only [ne_eq, Option.some.injEq]; omega))
        have HT7 := Lib.hid h7
        have HB7 := Lib.hid (show Below w.heap.size w2 w7 from HB5.out.grown g7 (by have := HB5.out.size; omega) (fun j hj => by cases hj; omega))
        clear g7 h7
        go_wp2_with fail
        go_roundw
        case rel => exact ⟨_, cnt1, _, HRG7, HG5, HT7, HB7⟩
        case measure => rw [HRG7.out.left_eq, HRG.out.left_eq]; exact HLT.out
  · obtain rfl : k = F.length := by omega
    have HFIN := Lib.hid (HT.out.same (S' := lastS E S i) (fun y => by unfold lastN lastS; rw [List.take_length, HF.out]))
    go_wp2_with fail
    go_ret
    exact ⟨_, rfl, Nat.le_refl _, HFIN.out, HB2.out.trans HBr.out⟩
end Go.Proofs.Ytaeklfljibjpiaa.Lv12
