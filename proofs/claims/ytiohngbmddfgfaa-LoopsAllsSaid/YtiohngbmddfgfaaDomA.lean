/-
  Layer 10: the document's All walked: for each point which points it dominates.
-/
import Derived.Test.YtiohngbmddfgfaaDomW
namespace Go.Proofs.Ytiohngbmddfgfaa.Dm10
open Go.RowKit Api Mem Fl9

abbrev innB (v : Value) (l : List Bool) : Hold.Rec := ⟨4, 1, v, l.length, bC l⟩
def innBs (vs : List Value) (L : List (List Bool)) : List Hold.Rec := List.zipWith innB vs L
abbrev outB (v : Value) (vs : List Value) : Hold.Rec := ⟨49, 1, v, vs.length, vs⟩
/-- rows of truths of the call's own. -/
def BOwn (w : World) (base : Nat) (v : Value) (L : List (List Bool)) : Prop := ∃ vs, vs.length = L.length ∧ Hold.Apart w base (outB v vs :: innBs vs L)
/-- .. as they are read. -/
def BGraph (lo hi : Nat) (w : World) (v : Value) (g : List (List Bool)) : Prop := Row lo hi w 1 (fun cs l => ∃ u, cs = [u] ∧ Bools lo hi w u l) v g
theorem BGraph.move {lo hi lo' hi' : Nat} {w w' : World} (s : Still lo hi lo' hi' w w') {v : Value} {g : List (List Bool)} (h : BGraph lo hi w v g) : BGraph lo' hi' w' v g := Row.move h s.keep s.low s.high fun _ _ ⟨u, e, h⟩ => ⟨u, e, Bools.move s h⟩
theorem innB_get {vs : List Value} {L : List (List Bool)} {i : Nat} {v : Value} {l : List Bool} (h1 : vs[i]? = some v) (h2 : L[i]? = some l) : innB v l ∈ innBs vs L := by
  refine List.mem_of_getElem? (i := i) ?_
  unfold innBs
  rw [List.getElem?_zipWith, h1, h2]
theorem BOwn.snoc {w : World} {base : Nat} {v vl : Value} {vs : List Value} {L : List (List Bool)} {l : List Bool} (hv : vs.length = L.length) (h : Hold.Apart w base (⟨49, 1, v, vs.length + 1, vs ++ [vl]⟩ :: innB vl l :: innBs vs L)) : BOwn w base v (L ++ [l]) := by
  refine ⟨vs ++ [vl], by simp [hv], ?_⟩
  have e : innBs (vs ++ [vl]) (L ++ [l]) = innBs vs L ++ [innB vl l] := by
    unfold innBs
    rw [List.zipWith_append hv]
    rfl
  have e2 : outB v (vs ++ [vl]) = ⟨49, 1, v, vs.length + 1, vs ++ [vl]⟩ := by simp [outB]
  rw [e, e2]
  refine h.perm (List.Perm.cons _ ?_)
  exact (List.perm_append_comm (l₁ := [innB vl l]) (l₂ := innBs vs L))
theorem BOwn.form {w : World} {base : Nat} {v : Value} {L : List (List Bool)} (h : BOwn w base v L) : ∃ A cap, v = .slice A L.length cap := by
  obtain ⟨vs, hv, ha⟩ := h
  obtain ⟨A, cap, e⟩ := ha.head.form
  exact ⟨A, cap, by rw [← hv]; exact e⟩
theorem BOwn.graph {w : World} {base hi : Nat} {v : Value} {L : List (List Bool)} (h : BOwn w base v L) (hh : w.heap.size ≤ hi) (hl : L.length ≤ 4611686018427387903) (hs : ∀ l ∈ L, l.length ≤ 4611686018427387903) : BGraph base hi w v L := by
  obtain ⟨vs, hv, ha⟩ := h
  exact Hold.Rec.on.row (r := outB v vs) (ys := vs.map fun x => [x]) ha.head hh (by rw [← hv] at hl; exact hl) hv (by simp [hv]) (by rw [flat_one (fun x => x)]; simp) (by
    intro i c x hc hx
    rw [List.getElem?_map] at hc
    obtain ⟨u, hu, rfl⟩ := Option.map_eq_some_iff.1 hc
    exact ⟨rfl, u, rfl, bools_own (ha.1 (innB u x) (by simp [innB_get hu hx])) hh (hs x (List.mem_of_getElem? hx))⟩)
theorem one_apart {w : World} {base : Nat} {r : Hold.Rec} (h : w.ownsRow base r.t r.size r.v r.n r.cs) : Hold.Apart w base [r] := by
  refine ⟨fun x hx => ?_, ?_⟩
  · rw [List.mem_singleton] at hx
    subst hx
    exact h
  · cases e : r.v.ownBlock <;> simp [e]
/-- does i dominate k? -/
def domB (g : List (List Int)) (i k : Nat) : Bool := (comeV g).getD i false && ((comeV g).getD k false && (decide (i = k) || !(withoutV g i).getD k false))
def rowB (g : List (List Int)) (i : Nat) : List Bool := (List.range g.length).map (domB g i)
def allV (g : List (List Int)) : List (List Bool) := (List.range g.length).map (rowB g)
theorem all_len (g : List (List Int)) : (allV g).length = g.length := by simp [allV]
theorem rowB_len (g : List (List Int)) (i : Nat) : (rowB g i).length = g.length := by simp [rowB]
theorem all_at {g : List (List Int)} {i : Nat} (h : i < g.length) : (allV g)[i]? = some (rowB g i) := by unfold allV; rw [List.getElem?_map, List.getElem?_range h]; rfl
theorem rowB_at {g : List (List Int)} {i k : Nat} (h : k < g.length) : (rowB g i)[k]? = some (domB g i k) := by unfold rowB; rw [List.getElem?_map, List.getElem?_range h]; rfl
theorem getD_true {l : List Bool} {k : Nat} : l.getD k false = true ↔ l[k]? = some true := by
  rw [List.getD_eq_getElem?_getD]
  cases h : l[k]? with
  | none => simp
  | some b => simp
theorem domB_iff {g : List (List Int)} {i k : Nat} : domB g i k = true ↔ Dom g i k := by
  unfold domB
  rw [Bool.and_eq_true, Bool.and_eq_true, Bool.or_eq_true, getD_true, getD_true, come_iff, come_iff, decide_eq_true_iff, Bool.not_eq_true', ← Bool.not_eq_true, getD_true, without_iff]
  constructor
  · rintro ⟨h1, h2, rfl | h3⟩
    · exact Dom.self h1
    · exact ⟨h2, h1.last.1, h3⟩
  · intro h
    exact ⟨h.come, h.1, .inr h.2.2⟩
/-- a row of truths, filled up to k. -/
def fillB (g : List (List Int)) (i k : Nat) : List Bool := (rowB g i).take k ++ List.replicate (g.length - k) false
theorem fill_len {g : List (List Int)} {i k : Nat} (h : k ≤ g.length) : (fillB g i k).length = g.length := by simp [fillB, rowB_len]; omega
theorem fill_zero (g : List (List Int)) (i : Nat) : fillB g i 0 = List.replicate g.length false := by simp [fillB]
theorem fill_end (g : List (List Int)) (i : Nat) : fillB g i g.length = rowB g i := by simp [fillB, List.take_of_length_le (Nat.le_of_eq (rowB_len g i))]
theorem fill_next {g : List (List Int)} {i k : Nat} (h : k < g.length) : (fillB g i k).set k (domB g i k) = fillB g i (k + 1) := by
  obtain ⟨h2, e2⟩ := List.getElem?_eq_some_iff.1 (rowB_at (i := i) h)
  have hl : ((rowB g i).take k).length = k := by rw [List.length_take, rowB_len]; omega
  unfold fillB
  rw [List.set_append_right _ _ (by omega), hl, Nat.sub_self, show g.length - k = (g.length - (k + 1)) + 1 by omega, List.replicate_succ, List.set_cons_zero, List.take_succ_eq_append_getElem h2, e2, List.append_assoc]
  rfl
def AllP (g : List (List Int)) (w : World) (e : Ending) (w' : World) : Prop := ∃ v, e = .returned v ∧ BOwn w' w.heap.size v (allV g) ∧ Below w.heap.size w w'
theorem info_rowB : (Try.prog.info? 49).map (fun i => (i.zero, i.size, i.bytes)) = some (some (.slice none 0 0), 1, 24) := by kernel_rfl
set_option maxRecDepth 100000 in
set_option maxHeartbeats 8000000 in
theorem all_any (lo hi : Nat) (w : World) (v : Value) (g : List (List Int)) (hg : Graph lo hi w v g) (hh : hi ≤ w.heap.size) (hn : g.length ≤ 1000) (hs : ∀ l ∈ g, l.length ≤ 1000) :
    Calls Try.prog 21 #[v] w (AllP g w) := by
  obtain ⟨A1, k1, rfl⟩ := Row.form hg
  obtain ⟨ir, hr1, hr2, hr3, hr4⟩ := info_parts info_rowB
  have HIR : Hid (Try.prog.info? 49 = some ir ∧ ir.zero = some (.slice none 0 0) ∧ ir.size = 1 ∧ ir.bytes = 24) := Lib.hid ⟨hr1, hr2, hr3, hr4⟩
  have HG := Lib.hid hg
  have HS := Lib.hid hs
  have hmm := fun (w : World) => run_row9 (P := Try.prog) (t := 49) Try.underlying49 info_bool9 rfl (by decide) g.length (by omega) w
  have QC := Lib.hid (rcomeG_any lo hi w _ g hg hh hn)
  clear hg hs hr1 hr2 hr3 hr4
  go_enter Try.func21, Try.ntmps21
  go_wp2_with fail
  refine QC.out.mono ?_
  rintro e w1 ⟨vm, rfl, om, hb1⟩
  obtain ⟨Am, cm, rfl⟩ := any9 om
  have HM := Lib.hid om
  have HB1 := Lib.hid hb1
  have hs1 := hb1.size
  have hcl := come_len g
  clear om hb1
  go_wp2_with fail
  go_loopw [4, 5] (fun vo i wr => ∃ k : Nat, k ≤ g.length ∧ i = .int .i64 k ∧ Hid (BOwn wr w1.heap.size vo ((allV g).take k)) ∧ Hid (Below w1.heap.size w1 wr)) (fun _ i _ => g.length - (intOf i).toNat)
  case atStart => exact ⟨0, Nat.zero_le _, rfl, Lib.hid ⟨[], rfl, (Hold.Apart.nil w1 w1.heap.size).empty 49 1⟩, Lib.hid (Below.refl _ _)⟩
  case round =>
  obtain ⟨i, hi9, rfl, HBO, HBr⟩ := hrel
  by_cases hlt : i < g.length
  · have hti : ((allV g).take i).length = i := by rw [List.length_take, all_len]; omega
    obtain ⟨Ao, co, hvo⟩ := HBO.out.form
    rw [hti] at hvo
    subst hvo
    obtain ⟨vs, hvs, hap⟩ := HBO.out
    rw [hti] at hvs
    have HVS := Lib.hid hvs
    have HTI := Lib.hid hti
    have HAP := Lib.hid hap
    have HNX := Lib.hid (take_nx (all_at hlt))
    have HXr := Lib.hid (HB1.out.trans (HBr.out.mono hs1))
    have QW := Lib.hid (without_any lo hi wr _ g (Graph.move (Still.of_below (HXr.out.mono hh)) HG.out) (Nat.le_trans hh HXr.out.size) hn HS.out i)
    clear hvs hap HBO hti
    go_wp2_with fail
    refine QW.out.mono ?_
    rintro e w2 ⟨vw, rfl, ow, hb2⟩
    obtain ⟨Aw, cw, rfl⟩ := any9 ow
    have HW := Lib.hid ow
    have HB2 := Lib.hid (HBr.out.trans (hb2.mono HBr.out.size))
    have HAP2 := Lib.hid (HAP.out.below hb2)
    have hs2 := HB2.out.size
    obtain ⟨W3, hW3⟩ : ∃ W, w2.alloc (.cells (List.replicate g.length (.bool false)).toArray 4) = W := ⟨_, rfl⟩
    have HL3 := Lib.hid (show Own W3 w2.heap.size 4 (bC (List.replicate g.length false)) by rw [← hW3, show bC (List.replicate g.length false) = List.replicate g.length (.bool false) from List.map_replicate]; exact Own.made w2 _ _)
    have HU3 := Lib.hid (show Below w2.heap.size w2 W3 by rw [← hW3]; exact (Below.refl _ _).alloc (Nat.le_refl _) _)
    have HW3 := Lib.hid (show w2.alloc (.cells (Array.replicate g.length (.bool false)) 4) = W3 by rw [← hW3]; simp)
    have hwl := without_len g i
    clear ow hb2 hW3
    go_wp2_with fail
    rw [HW3.out]
    go_loopw [8] (fun kv wr => ∃ k : Nat, k ≤ g.length ∧ kv = .int .i64 k ∧ Hid (Own wr w2.heap.size 4 (bC (fillB g i k))) ∧ Hid (Below w2.heap.size w2 wr)) (fun kv _ => g.length - (intOf kv).toNat)
    case atStart => exact ⟨0, Nat.zero_le _, rfl, by rw [fill_zero]; exact HL3, HU3⟩
    case round =>
    obtain ⟨k, hk, rfl, HL, HU⟩ := hrel
    by_cases hlt2 : k < g.length
    · obtain ⟨ci, hci⟩ : ∃ b, (comeV g)[i]? = some b := ⟨_, List.getElem?_eq_getElem (by omega)⟩
      obtain ⟨ck, hck⟩ : ∃ b, (comeV g)[k]? = some b := ⟨_, List.getElem?_eq_getElem (by omega)⟩
      obtain ⟨lk, hlk⟩ : ∃ b, (withoutV g i)[k]? = some b := ⟨_, List.getElem?_eq_getElem (by omega)⟩
      have hdom : domB g i k = (ci && (ck && (decide (i = k) || !lk))) := by
        unfold domB
        rw [List.getD_eq_getElem?_getD, List.getD_eq_getElem?_getD, List.getD_eq_getElem?_getD, hci, hck, hlk]
        rfl
      obtain ⟨gm, cpm, em, _⟩ := form9 HM.out (by omega)
      simp only [Value.slice.injEq, true_and] at em
      obtain ⟨rfl, rfl⟩ := em
      obtain ⟨gw, cpw, ew, _⟩ := form9 HW.out (by omega)
      simp only [Value.slice.injEq, true_and] at ew
      obtain ⟨rfl, rfl⟩ := ew
      have hM2 := row_below9 HM.out (HB2.out.trans (HU.out.mono hs2))
      have hW2 := row_below9 HW.out HU.out
      have c1 := (hM2.cellAt i (by omega)).trans (show (bC (comeV g))[i]? = some (.bool ci) by rw [List.getElem?_map, hci]; rfl)
      have c2 := (hM2.cellAt k (by omega)).trans (show (bC (comeV g))[k]? = some (.bool ck) by rw [List.getElem?_map, hck]; rfl)
      have c3 := (hW2.cellAt k (by omega)).trans (show (bC (withoutV g i))[k]? = some (.bool lk) by rw [List.getElem?_map, hlk]; rfl)
      have hfl := fill_len (g := g) (i := i) (Nat.le_of_lt hlt2)
      obtain ⟨y, hy⟩ : ∃ y, (fillB g i k)[k]? = some y := ⟨_, List.getElem?_eq_getElem (by omega)⟩
      have c4 := (HL.out.cell k).trans (show (bC (fillB g i k))[k]? = some (.bool y) by rw [List.getElem?_map, hy]; rfl)
      have c4t := HL.out.thaw k
      have c4s := HL.out.lt
      have HL2 := Lib.hid (show Own (wr.setCell ⟨w2.heap.size, k, none⟩ (.bool (domB g i k))) w2.heap.size 4 (bC (fillB g i (k + 1))) by have := HL.out.store k (.bool (domB g i k)); rw [← fill_next hlt2]; simpa [bC, List.map_set] using this)
      have HU2 := Lib.hid (HU.out.setCell (p := ⟨w2.heap.size, k, none⟩) (Nat.le_refl _) (.bool (domB g i k)))
      rw [hdom] at HL2 HU2
      clear hci hck hlk hdom hM2 hW2 hy hfl
      by_cases hik : i = k
      · subst hik
        obtain rfl : ci = ck := by have := c1.symm.trans c2; simpa using this
        rw [decide_eq_true rfl] at HL2 HU2
        cases ci with
        | false =>
          replace HL2 : Hid (Own (wr.setCell ⟨w2.heap.size, _, none⟩ (.bool false)) w2.heap.size _ _) := HL2
          replace HU2 : Hid (Below w2.heap.size w2 (wr.setCell ⟨w2.heap.size, _, none⟩ (.bool false))) := HU2
          go_wp2_with fail
          go_roundw
          case rel => exact ⟨i + 1, by omega, by go_num, HL2, HU2⟩
          case measure => simp [intOf]; omega
        | true =>
          replace HL2 : Hid (Own (wr.setCell ⟨w2.heap.size, _, none⟩ (.bool true)) w2.heap.size _ _) := HL2
          replace HU2 : Hid (Below w2.heap.size w2 (wr.setCell ⟨w2.heap.size, _, none⟩ (.bool true))) := HU2
          go_wp2_with fail
          go_roundw
          case rel => exact ⟨i + 1, by omega, by go_num, HL2, HU2⟩
          case measure => simp [intOf]; omega
      · have e1 : ((i : Int) == (k : Int)) = false := by rw [beq_eq_false_iff_ne]; omega
        have e2 : decide (i = k) = false := decide_eq_false hik
        rw [e2] at HL2 HU2
        cases ci with
        | false =>
          replace HL2 : Hid (Own (wr.setCell ⟨w2.heap.size, _, none⟩ (.bool false)) w2.heap.size _ _) := HL2
          replace HU2 : Hid (Below w2.heap.size w2 (wr.setCell ⟨w2.heap.size, _, none⟩ (.bool false))) := HU2
          go_wp2_with fail
          go_roundw
          case rel => exact ⟨k + 1, by omega, by go_num, HL2, HU2⟩
          case measure => simp [intOf]; omega
        | true =>
          cases ck with
          | false =>
            replace HL2 : Hid (Own (wr.setCell ⟨w2.heap.size, _, none⟩ (.bool false)) w2.heap.size _ _) := HL2
            replace HU2 : Hid (Below w2.heap.size w2 (wr.setCell ⟨w2.heap.size, _, none⟩ (.bool false))) := HU2
            go_wp2_with fail
            go_roundw
            case rel => exact ⟨k + 1, by omega, by go_num, HL2, HU2⟩
            case measure => simp [intOf]; omega
          | true =>
            cases lk with
            | false =>
              replace HL2 : Hid (Own (wr.setCell ⟨w2.heap.size, _, none⟩ (.bool true)) w2.heap.size _ _) := HL2
              replace HU2 : Hid (Below w2.heap.size w2 (wr.setCell ⟨w2.heap.size, _, none⟩ (.bool true))) := HU2
              go_wp2_with fail
              go_roundw
              case rel => exact ⟨k + 1, by omega, by go_num, HL2, HU2⟩
              case measure => simp [intOf]; omega
            | true =>
              replace HL2 : Hid (Own (wr.setCell ⟨w2.heap.size, _, none⟩ (.bool false)) w2.heap.size _ _) := HL2
              replace HU2 : Hid (Below w2.heap.size w2 (wr.setCell ⟨w2.heap.size, _, none⟩ (.bool false))) := HU2
              go_wp2_with fail
              go_roundw
              case rel => exact ⟨k + 1, by omega, by go_num, HL2, HU2⟩
              case measure => simp [intOf]; omega
    · have hke : k = g.length := by omega
      rw [hke, fill_end] at HL
      clear hke
      have hrl := rowB_len g i
      have HRW := Lib.hid (show wr.ownsRow w2.heap.size 4 1 (.slice (some ⟨w2.heap.size, 0, none⟩) g.length g.length) (rowB g i).length (bC (rowB g i)) by rw [hrl]; exact HL.out.row (Nat.le_refl _) (Nat.le_refl _) (by unfold maxLen; omega) (by simp [hrl]) (List.take_of_length_le (by simp [hrl])))
      have HA2 := Lib.hid ((HAP2.out.join HU.out (one_apart (r := innB (.slice (some ⟨w2.heap.size, 0, none⟩) g.length g.length) (rowB g i)) HRW.out) hs2).perm (List.Perm.swap _ _ _))
      have hs3 := Nat.le_trans hs2 HU.out.size
      clear hrl
      go_wp2_with (at_builtin; refine Hold.wpList_grow (R := innB (.slice (some ⟨w2.heap.size, 0, none⟩) g.length g.length) (rowB g i) :: innBs vs ((allV g).take i)) rfl _ _ 46 rfl w1.heap.size (outB (.slice Ao i co) vs) ir _ 24 Try.underlying46 HIR.out.1 HIR.out.2.1 HIR.out.2.2.1 HIR.out.2.2.2 rfl Nat.one_pos rfl HA2.out [.slice (some ⟨w2.heap.size, 0, none⟩) g.length g.length] _ rfl rfl rfl (by intro u hu; rw [List.mem_singleton] at hu; subst hu; rfl) (by show vs.length + 1 ≤ _; have := HVS.out; omega) (by show (vs.length + 1) * 24 ≤ _; have := HVS.out; omega) hs3 ?_; intro v7 w7 hA7 hB7; have HG7 := Lib.hid (BOwn.snoc (by rw [HVS.out, HTI.out]) hA7); have HB7 := Lib.hid ((HB2.out.trans (HU.out.mono hs2)).trans hB7); clear hA7 hB7)
      rw [← HNX.out] at HG7
      go_roundw
      case rel => exact ⟨i + 1, by omega, by go_num, HG7, HB7⟩
      case measure => simp [intOf]; omega
  · have hke : i = g.length := by omega
    rw [hke, List.take_of_length_le (by rw [all_len]; exact Nat.le_refl _)] at HBO
    clear hke
    go_wp2_with fail
    go_ret
    refine ⟨_, rfl, ?_, HB1.out.trans (HBr.out.mono hs1)⟩
    obtain ⟨vs, hvs, hap⟩ := HBO.out
    exact ⟨vs, hvs, hap.lower hs1⟩
end Go.Proofs.Ytiohngbmddfgfaa.Dm10
