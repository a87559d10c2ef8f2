/-
  The document's own Join, walked.
-/
import Derived.Test.YtkfpcaganhmkcaaDoorProg
import Derived.Test.YtkfpcaganhmkcaaDoorCallsL
import Derived.Test.YtkfpcaganhmkcaaDoorPlainN
import Derived.Lib.AppendStr
import Derived.Lib.Builder
import Derived.Lib.UnsafeStr
import Derived.Lib.Hide
import Derived.Lib.Walk
import Derived.Laws.IdiomStrings
import Derived.Laws.BytesArg
namespace Go.Proofs.YtkfpcaganhmkcaaDoor.R04
open Go.RowKit LinesM Mem

theorem jb_info : (Tryd.prog.info? 5).map (fun i => (i.zero, i.size, i.bytes)) = some (some (.int .u8 0), 1, 1) := by kernel_rfl
def wordsOf (xs : List ML) : List (List Wd) := xs.map fun x => x.2.2
theorem wordsOf_at {xs : List ML} {k : Nat} {x : ML} (h : xs[k]? = some x) : (wordsOf xs)[k]? = some x.2.2 := by unfold wordsOf; rw [List.getElem?_map, h]; rfl
theorem one_byte (c : Int) : ∀ u ∈ [Value.int .u8 c], u.oneCell' = true := by intro u hu; rw [List.mem_singleton] at hu; subst hu; rfl

/-- The bytes l, in a row of the call's own. -/
def Out (B : Nat) (v : Value) (l : List UInt8) (w : World) : Prop := w.ownsRow B 5 1 v l.length (Lib.byteCells l)
theorem Out.row {B : Nat} {v : Value} {l : List UInt8} {w : World} (h : Out B v l w) : w.ownsRow B 5 1 v l.length (Lib.byteCells l) := h
theorem Out.one {B : Nat} {v : Value} {l : List UInt8} {w : World} {n : Nat} {c : UInt8} {m : Int} (hm : m = (c.toNat : Int)) (hn : n = l.length + 1) (h : w.ownsRow B 5 1 v n (Lib.byteCells l ++ [.int .u8 m])) : Out B v (l ++ [c]) w := by
  subst hn hm
  unfold Out
  rw [List.length_append]
  have e : Lib.byteCells (l ++ [c]) = Lib.byteCells l ++ [.int .u8 (c.toNat : Int)] := by simp [Lib.byteCells]
  rw [e]
  exact h
theorem Out.more {B : Nat} {v : Value} {l x : List UInt8} {s : ByteArray} {w : World} {n : Nat} (hs : s = ⟨x.toArray⟩) (hn : n = l.length + s.size) (h : w.ownsRow B 5 1 v n (Lib.byteCells l ++ Lib.strCells s)) : Out B v (l ++ x) w := by
  subst hn hs
  unfold Out
  rw [List.length_append]
  have e : Lib.byteCells (l ++ x) = Lib.byteCells l ++ Lib.strCells ⟨x.toArray⟩ := by simp [Lib.byteCells, Lib.strCells]
  rw [e]
  have e2 : (⟨x.toArray⟩ : ByteArray).size = x.length := by show x.toArray.size = _; simp
  rw [e2] at h
  exact h

set_option maxHeartbeats 4000000 in
theorem join_any (lo hi : Nat) (w : World) (v : Value) (xs : List ML) (h : Lins lo hi w v xs) (hh : hi ≤ w.heap.size) (hT : (joinV (wordsOf xs)).length ≤ 1099511627776) :
    Calls Tryd.prog 19 #[v] w fun e w' => e = .returned (.string ⟨(joinV (wordsOf xs)).toArray⟩) ∧ Below w.heap.size w w' := by
  obtain ⟨i0, hi, hz0, hz1, hz2⟩ := info_parts jb_info
  have Hi := Lib.hid hi
  have Hz0 := Lib.hid hz0
  have Hz1 := Lib.hid hz1
  have Hz2 := Lib.hid hz2
  clear hi hz0 hz1 hz2
  obtain ⟨A, n, cap, b, off, rfl, hn, hm, ha, hc⟩ := h
  obtain ⟨T, hTT⟩ : ∃ T, (joinV (wordsOf xs)) = T := ⟨_, rfl⟩
  rw [hTT] at hT ⊢
  have HTT := Lib.hid hTT
  have HT := Lib.hid hT
  have HC := Lib.hid hc
  have HA := Lib.hid ha
  have HN := Lib.hid hn
  clear hc ha hn hT hTT
  go_enter Tryd.func19, Tryd.ntmps19
  go_wp2
  go_loopw [3, 4, 5] (fun v3 i _ wr => ∃ k : Nat, k ≤ n ∧ i = .int .i64 k ∧ Hid (Out w.heap.size v3 (joinV ((wordsOf xs).take k)) wr) ∧ Hid (Below w.heap.size w wr) ∧ Hid (k = 0 → v3 = .slice none 0 0)) (fun _ i _ _ => n - (intOf i).toNat)
  case atStart => exact ⟨0, Nat.zero_le _, rfl, Lib.hid (World.ownsRow_nil _ _ _ _), Lib.hid (Below.refl _ _), Lib.hid fun _ => rfl⟩
  case round =>
    obtain ⟨k, hk, rfl, HH, HB, HZ⟩ := hrel
    by_cases hlt : k < n
    · obtain ⟨⟨N, u, ws⟩, hx⟩ : ∃ x, xs[k]? = some x := ⟨_, List.getElem?_eq_getElem (by have := HN.out; omega)⟩
      obtain ⟨rfl, _, hb⟩ := HA.out (by omega)
      obtain ⟨c1, c2, c3⟩ := HC.out k _ hx
      simp only at c1 c2 c3
      obtain ⟨A1, p1, rfl⟩ := c3.form
      obtain ⟨s1, o1, _, hm1, a1, j1⟩ := c3.get
      have hb2 : b < w.heap.size := by omega
      have C2 := Lib.hid c2
      have A1h := Lib.hid a1
      have J1h := Lib.hid j1
      have HX := Lib.hid (wordsOf_at hx)
      clear c1 c2 c3 a1 j1 hx HZ
      obtain ⟨wo, rfl⟩ : ∃ wo : World, wo = wr := ⟨_, rfl⟩
      go_wp2
      go_loopw [3, 5] (fun v3 j wq => ∃ q : Nat, q ≤ ws.length ∧ j = .int .i64 q ∧ Hid (Out w.heap.size v3 (joinV ((wordsOf xs).take k) ++ lineJ (ws.take q)) wq) ∧ Hid (Below w.heap.size w wq)) (fun _ j _ => ws.length - (intOf j).toNat)
      case atStart =>
        refine ⟨0, Nat.zero_le _, rfl, Lib.hid ?_, HB⟩
        have e : joinV ((wordsOf xs).take k) ++ lineJ (ws.take 0) = joinV ((wordsOf xs).take k) := by rw [List.take_zero]; exact List.append_nil _
        rw [e]
        exact HH.out
      case round =>
        obtain ⟨q, hq, rfl, HH2, HB2⟩ := hrel
        have d2 := (HB2.out.cell (p := ⟨b, off + k * 2 + 1, none⟩) hb2).trans C2.out
        by_cases hqt : q < ws.length
        · obtain ⟨x, hx⟩ : ∃ x, ws[q]? = some x := ⟨_, List.getElem?_eq_getElem hqt⟩
          obtain ⟨rfl, _, hs1⟩ := A1h.out (by omega)
          have d7 := (HB2.out.cell (p := ⟨s1, o1 + q, none⟩) (by show s1 < _; omega)).trans (J1h.out q x hx)
          obtain ⟨s, hs⟩ : ∃ s : ByteArray, s = ⟨x.toArray⟩ := ⟨_, rfl⟩
          have hsz : s.size = x.length := by rw [hs]; show x.toArray.size = _; simp
          rw [← hs] at d7
          have hj1 := J1h.out q x hx
          rw [← hs] at hj1
          have HJ := Lib.hid hj1
          clear hj1
          have hbs : s1 < w.heap.size := by omega
          have HS := Lib.hid hs
          have hp := part_le (q := q + 1) HX.out
          have hT2 := HT.out
          rw [HTT.out] at hp
          by_cases hq0 : q = 0
          · subst hq0
            rw [Nat.add_zero] at d7
            have hst := lineJ_step0 hx
            rw [hst] at hp
            simp only [List.length_append] at hp
            have HST := Lib.hid hst
            have hle : (joinV ((wordsOf xs).take k) ++ lineJ (ws.take 0)).length + s.size ≤ 140737488355328 := by rw [List.length_append]; omega
            have HLE := Lib.hid hle
            clear hx hst hp hT2 hle hs hsz
            go_wp2_with (at_builtin; refine Lib.wpList_append_own_string _ rfl _ _ 97 9 rfl w.heap.size 5 i0 Tryd.underlying97 Tryd.underlying9 Hi.out Hz0.out Hz1.out Hz2.out _ _ _ rfl HH2.out.row s rfl (by have := HLE.out; unfold maxLen; omega) HLE.out HB2.out.size ?_; intro v' w1 hown1 hg1 _; have HH3 := Lib.hid (Out.more HS.out rfl hown1); have HB3 := Lib.hid (below_grown HB2.out HH2.out.row hg1 HB2.out.size (Nat.le_refl _)); clear hown1 hg1)
            go_roundw
            case rel => exact ⟨0 + 1, by omega, by go_num, Lib.hid (by rw [HST.out, ← List.append_assoc]; exact HH3.out), HB3⟩
            case measure => simp [intOf]; omega
          · have hq1 : 0 < q := by omega
            have hst := lineJ_step hx hq1
            rw [hst] at hp
            simp only [List.length_append, List.length_singleton] at hp
            have HST := Lib.hid hst
            have hle1 : (joinV ((wordsOf xs).take k) ++ lineJ (ws.take q)).length + 1 ≤ 140737488355328 := by rw [List.length_append]; omega
            have hle2 : (joinV ((wordsOf xs).take k) ++ lineJ (ws.take q) ++ [32]).length + s.size ≤ 140737488355328 := by rw [List.length_append, List.length_append, List.length_singleton]; omega
            have HLE1 := Lib.hid hle1
            have HLE2 := Lib.hid hle2
            have g1 : decide (0 < q) = true := decide_eq_true hq1
            clear hx hst hp hT2 hle1 hle2 hs hsz
            go_wp2_with (at_builtin; first
              | (refine wpList_push rfl _ _ 97 rfl w.heap.size 5 i0 (.int .u8 0) 1 1 Tryd.underlying97 Hi.out Hz0.out Hz1.out Hz2.out rfl (by decide) _ _ _ rfl HH2.out.row [.int .u8 32] rfl rfl (one_byte _) (by have := HLE1.out; unfold maxLen; omega) (by have := HLE1.out; omega) HB2.out.size ?_; intro v' w1 hown1 hg1; have HH3 := Lib.hid (Out.one (c := 32) rfl rfl hown1); have HB3 := Lib.hid (below_grown HB2.out HH2.out.row hg1 HB2.out.size (Nat.le_refl _)); clear hown1 hg1; have d3 := (HB3.out.cell (p := ⟨b, off + k * 2 + 1, none⟩) hb2).trans C2.out; have d8 := (HB3.out.cell (p := ⟨s1, o1 + q, none⟩) hbs).trans HJ.out)
              | (refine Lib.wpList_append_own_string _ rfl _ _ 97 9 rfl w.heap.size 5 i0 Tryd.underlying97 Tryd.underlying9 Hi.out Hz0.out Hz1.out Hz2.out _ _ _ rfl HH3.out.row s rfl (by have := HLE2.out; unfold maxLen; omega) HLE2.out HB3.out.size ?_; intro v2 w2 hown1 hg1 _; have HH4 := Lib.hid (Out.more HS.out rfl hown1); have HB4 := Lib.hid (below_grown HB3.out HH3.out.row hg1 HB3.out.size (Nat.le_refl _)); clear hown1 hg1))
            go_roundw
            case rel => exact ⟨q + 1, by omega, by go_num, Lib.hid (by rw [HST.out, ← List.append_assoc, ← List.append_assoc]; exact HH4.out), HB4⟩
            case measure => simp [intOf]; omega
        · have hp := part_le (q := ws.length) HX.out
          have hT2 := HT.out
          rw [HTT.out] at hp
          obtain rfl : q = ws.length := by omega
          have hle : (joinV ((wordsOf xs).take k) ++ lineJ (ws.take ws.length)).length + 1 ≤ 140737488355328 := by rw [List.length_append]; omega
          have HLE := Lib.hid hle
          have HE : Hid (joinV ((wordsOf xs).take k) ++ lineJ (ws.take ws.length) ++ [10] = joinV ((wordsOf xs).take (k + 1))) := Lib.hid (by rw [joinV_next HX.out, List.take_length])
          clear hp hT2 hle
          go_wp2_with (at_builtin; refine wpList_push rfl _ _ 97 rfl w.heap.size 5 i0 (.int .u8 0) 1 1 Tryd.underlying97 Hi.out Hz0.out Hz1.out Hz2.out rfl (by decide) _ _ _ rfl HH2.out.row [.int .u8 10] rfl rfl (one_byte _) (by have := HLE.out; unfold maxLen; omega) (by have := HLE.out; omega) HB2.out.size ?_; intro v' w1 hown1 hg1; have HH3 := Lib.hid (Out.one (c := 10) rfl rfl hown1); have HB3 := Lib.hid (below_grown HB2.out HH2.out.row hg1 HB2.out.size (Nat.le_refl _)); clear hown1 hg1)
          go_roundw
          case rel => exact ⟨k + 1, by omega, by go_num, Lib.hid (by rw [← HE.out]; exact HH3.out), HB3, Lib.hid fun h0 => by omega⟩
          case measure => simp [intOf]; omega
    · obtain rfl : k = n := by omega
      have hnl : (wordsOf xs).length = k := by unfold wordsOf; rw [List.length_map]; exact HN.out.symm
      by_cases hk0 : k = 0
      · obtain rfl := HZ.out hk0
        have hT0 : T = [] := by rw [← HTT.out, List.eq_nil_of_length_eq_zero (hnl.trans hk0)]; rfl
        subst hT0
        clear hnl hk0
        have hcv := run_convert_bytes_nil (P := Tryd.prog) (w := wr) 97 5 Tryd.underlying97 Tryd.underlying5 0 0 9 Tryd.underlying9
        go_wp2
        go_ret
        exact ⟨rfl, HB.out⟩
      · have hT0 : T ≠ [] := by
          intro e
          have h1 := HTT.out
          rw [e] at h1
          have h2 := part_le (L := wordsOf xs) (k := 0) (q := 0) (List.getElem?_eq_getElem (by omega))
          rw [h1] at h2
          simp at h2
        have hh2 := HH.out
        rw [List.take_of_length_le (by omega), HTT.out] at hh2
        have hcv := own_string (P := Tryd.prog) wr 97 9 5 Tryd.underlying97 Tryd.underlying5 Tryd.underlying9 T hT0 hh2
        clear hnl hk0 hh2 hT0
        go_wp2
        go_ret
        exact ⟨rfl, HB.out⟩
end Go.Proofs.YtkfpcaganhmkcaaDoor.R04
