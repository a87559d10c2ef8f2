/-
  Layer 11: the document's ways walked.
-/
import Derived.Test.YtiohngbmddfgfaaLpSteps
namespace Go.Proofs.Ytiohngbmddfgfaa.Lp11
open Go.RowKit Api Mem Fl9 Dm10

theorem innBs_at : ∀ {vs : List Value} {L : List (List Bool)} {i : Nat} {v : Value} {l : List Bool}, vs[i]? = some v → L[i]? = some l → ∃ rest, ∀ v' l', (innBs (vs.set i v') (L.set i l')).Perm (innB v' l' :: rest)
  | [], _, _, _, _, h, _ => by simp at h
  | _ :: _, [], _, _, _, _, h => by simp at h
  | a :: vs, b :: L, 0, v, l, h1, h2 => ⟨innBs vs L, fun v' l' => List.Perm.refl _⟩
  | a :: vs, b :: L, i + 1, v, l, h1, h2 => by
    obtain ⟨rest, hr⟩ := innBs_at (vs := vs) (L := L) (i := i) (by simpa using h1) (by simpa using h2)
    exact ⟨innB a b :: rest, fun v' l' => ((hr v' l').cons (innB a b)).trans (List.Perm.swap _ _ _)⟩
/-- one row read. -/
theorem bread {w : World} {base : Nat} {v u : Value} {vs : List Value} {L : List (List Bool)} {i : Nat} {l : List Bool} (h : Hold.Apart w base (outB v vs :: innBs vs L)) (hu : vs[i]? = some u) (hl : L[i]? = some l) (h0 : 0 < l.length) : ∃ b c, u = .slice (some ⟨b, 0, none⟩) l.length c ∧ ∀ k x, l[k]? = some x → w.cell? ⟨b, k, none⟩ = some (.bool x) := by
  have ho : w.ownsRow base 4 1 u l.length (bC l) := h.1 (innB u l) (by simp [innB_get hu hl])
  obtain ⟨b, c, e, _, _, _⟩ := form9 ho h0
  subst e
  refine ⟨b, c, rfl, fun k x hk => ?_⟩
  have := (List.getElem?_eq_some_iff.1 hk).1
  exact (ho.cellAt k (by omega)).trans (by rw [List.getElem?_map, hk]; rfl)
theorem bcell {w : World} {base : Nat} {v u : Value} {vs : List Value} {L : List (List Bool)} {i : Nat} (h : Hold.Apart w base (outB v vs :: innBs vs L)) (hu : vs[i]? = some u) : ∃ g cap, v = .slice (some ⟨g, 0, none⟩) vs.length cap ∧ w.cell? ⟨g, i, none⟩ = some u := by
  have hi := (List.getElem?_eq_some_iff.1 hu).1
  obtain ⟨g, cap, e, hg1, hg2, hg3⟩ := form9 (w := w) (v := v) h.head (by show 0 < vs.length; omega)
  have e2 : v = .slice (some ⟨g, 0, none⟩) vs.length cap := e
  have hpl : w.ownsRow base 49 1 v vs.length vs := h.head
  subst e2
  exact ⟨g, cap, rfl, (hpl.cellAt i (by simp; omega)).trans hu⟩
/-- one truth written. -/
theorem bstore {w : World} {base b c : Nat} {v : Value} {vs : List Value} {L : List (List Bool)} {i j : Nat} {l : List Bool} (h : Hold.Apart w base (outB v vs :: innBs vs L)) (hu : vs[i]? = some (.slice (some ⟨b, 0, none⟩) l.length c)) (hl : L[i]? = some l) (hj : j < l.length) :
    base ≤ b ∧ b < w.heap.size ∧ w.frozen? ⟨b, j, none⟩ = false ∧ ∀ x : Bool, Hold.Apart (w.setCell ⟨b, j, none⟩ (.bool x)) base (outB v vs :: innBs vs (L.set i (l.set j x))) := by
  obtain ⟨rest, hr⟩ := innBs_at hu hl
  have h0 := hr (.slice (some ⟨b, 0, none⟩) l.length c) l
  rw [set_same hu, set_same hl] at h0
  have ha := h.perm ((h0.cons _).trans (List.Perm.swap _ _ _))
  have ho : w.ownsRow base 4 1 (.slice (some ⟨b, 0, none⟩) l.length c) l.length (bC l) := ha.head
  obtain ⟨b', c', e, hb1, hb2, _⟩ := form9 ho (by omega)
  simp only [Value.slice.injEq, Option.some.injEq, Addr.mk.injEq, and_true, true_and] at e
  obtain ⟨rfl, rfl⟩ := e
  refine ⟨hb1, hb2, ho.frozenAt j, fun x => ?_⟩
  have h2 := (ha.store (g := b) (cap := c) (q := j) (u := .bool x) rfl)
  have e2 : ({ innB (.slice (some ⟨b, 0, none⟩) l.length c) l with cs := (innB (.slice (some ⟨b, 0, none⟩) l.length c) l).cs.set j (.bool x) } : Hold.Rec) = innB (.slice (some ⟨b, 0, none⟩) l.length c) (l.set j x) := by
    simp [innB, bC, List.map_set]
  rw [e2] at h2
  have h3 := hr (.slice (some ⟨b, 0, none⟩) l.length c) (l.set j x)
  rw [set_same hu] at h3
  exact h2.perm ((List.Perm.swap _ _ _).trans (h3.symm.cons _))
theorem brow_cells {lo hi : Nat} {w : World} {b o n c : Nat} {l : List Bool} (h : Bools lo hi w (.slice (some ⟨b, o, none⟩) n c) l) : ∀ j u, (bC l)[j]? = some u → w.cell? ⟨b, o + j, none⟩ = some u := by
  intro j u hu
  rw [List.getElem?_map] at hu
  obtain ⟨x, hx, rfl⟩ := Option.map_eq_some_iff.1 hu
  obtain ⟨cs, _, rfl, hc⟩ := cell_of h hx (Below.refl _ _)
  exact hc _ rfl
theorem up_alloc (w : World) (o : Obj) : Below w.heap.size w (w.alloc o) := (Below.refl _ _).alloc (Nat.le_refl _) _
set_option maxRecDepth 100000 in
set_option maxHeartbeats 8000000 in
theorem ways_any (lo hi : Nat) (w : World) (v : Value) (T : List (List Bool)) (hT : BGraph lo hi w v T) (hh : hi ≤ w.heap.size) (hn : T.length ≤ 1000) (hs : ∀ l ∈ T, l.length = T.length) :
    Calls Try.prog 23 #[v] w (TabP (waysT T.length T T.length) w) := by
  obtain ⟨A1, k1, rfl⟩ := Row.form hT
  obtain ⟨ib, hi1, hi2, hi3, hi4⟩ := info_parts info_bool9
  have HIB : Hid (Try.prog.info? 4 = some ib ∧ ib.zero = some (.bool false) ∧ ib.size = 1) := Lib.hid ⟨hi1, hi2, hi3⟩
  obtain ⟨ir, hr1, hr2, hr3, hr4⟩ := info_parts info_rowB
  have HIR : Hid (Try.prog.info? 49 = some ir ∧ ir.zero = some (.slice none 0 0) ∧ ir.size = 1 ∧ ir.bytes = 24) := Lib.hid ⟨hr1, hr2, hr3, hr4⟩
  have HG := Lib.hid hT
  have HS := Lib.hid hs
  clear hT hs hi1 hi2 hi3 hi4 hr1 hr2 hr3 hr4
  go_enter Try.func23, Try.ntmps23
  go_wp2_with fail
  go_loopw [3, 4] (fun vo iv wr => ∃ k : Nat, k ≤ T.length ∧ iv = .int .i64 k ∧ Hid (BOwn wr w.heap.size vo (T.take k)) ∧ Hid (Below w.heap.size w wr)) (fun _ iv _ => T.length - (intOf iv).toNat)
  case atStart => exact ⟨0, Nat.zero_le _, rfl, Lib.hid ⟨[], rfl, (Hold.Apart.nil w w.heap.size).empty 49 1⟩, Lib.hid (Below.refl _ _)⟩
  case round =>
  obtain ⟨k, hk, rfl, HGO, HBr⟩ := hrel
  have htk : (T.take k).length = k := by rw [List.length_take]; omega
  by_cases hlt : k < T.length
  · obtain ⟨Ao, co, hvo⟩ := HGO.out.form
    rw [htk] at hvo
    subst hvo
    obtain ⟨vs, hvs, hap⟩ := HGO.out
    rw [htk] at hvs
    have HVS := Lib.hid hvs
    have HAP := Lib.hid hap
    have HTK := Lib.hid htk
    obtain ⟨tk, htk2⟩ : ∃ x, T[k]? = some x := ⟨_, List.getElem?_eq_getElem hlt⟩
    obtain ⟨b1, o1, rfl⟩ := addr_of9 HG.out (by omega)
    obtain ⟨c1, _, ⟨u1, rfl, kx⟩, n1⟩ := cell_of HG.out htk2 (HBr.out.mono hh)
    have hgl := HS.out tk (List.mem_of_getElem? htk2)
    obtain ⟨A3, k3, rfl⟩ := Row.form kx
    obtain ⟨b2, o2, rfl⟩ := addr_of9 kx (by omega)
    have m1 := n1 _ rfl
    have hbs := HBr.out.size
    have m2 := ((up_alloc wr (.cells #[] 4)).cell (p := ⟨b1, o1 + k, none⟩) (World.block_lt_of_cell? wr _ m1)).trans m1
    have HE := Lib.hid (show (wr.alloc (.cells #[] 4)).ownsRow wr.heap.size 4 1 (.slice (some ⟨wr.heap.size, 0, none⟩) 0 0) 0 [] by
      have := World.ownsRow_lit (base := wr.heap.size) (e := 4) (size := 1) wr #[] 0 (Nat.le_refl _) (by unfold maxLen; omega) rfl
      simpa using this)
    have HXE := Lib.hid (HBr.out.trans ((up_alloc wr (.cells #[] 4)).mono hbs))
    have hE2 : wr.heap.size ≤ (wr.alloc (.cells #[] 4)).heap.size := by simp
    have KX2 := Lib.hid (Bools.move (Still.of_below (HXE.out.mono hh)) kx)
    have HNX := Lib.hid (take_nx htk2)
    obtain ⟨n9, hn9⟩ : ∃ n, tk.length = n := ⟨_, rfl⟩
    rw [hn9] at KX2 m1 m2
    have hn8 : n9 ≤ 1000 := by omega
    have HN9 := Lib.hid hn9
    clear hvs hap HGO n1 kx htk2 htk hgl hn9
    go_wp2_with (first | (at_builtin; refine read_own9 rfl _ _ 49 rfl wr.heap.size 4 _ 1 1 Try.underlying49 info_bool9 rfl (by decide) (.slice (some ⟨wr.heap.size, 0, none⟩) 0 0) 0 [] rfl HE.out b2 o2 n9 k3 (bC tk) rfl (by simp [bC, HN9.out]) (brow_cells KX2.out) (by intro u hu; obtain ⟨b, _, rfl⟩ := List.mem_map.1 hu; rfl) (by unfold maxLen; omega) (by omega) hE2 ?_; intro v7 w7 hown7 hg7; have hB7 := ((up_alloc wr (.cells #[] 4)).grown hg7 hE2 (fun q hq => (HE.out.lt q hq).1)); obtain ⟨A7, c7, e7⟩ := any9 hown7; rw [Nat.zero_add] at e7; subst e7; have HN7 := Lib.hid (show w7.ownsRow wr.heap.size 4 1 (.slice A7 n9 c7) tk.length (bC tk) by rw [HN9.out]; have := hown7; simpa using this); have HAJ := Lib.hid ((HAP.out.join (R2 := [innB (.slice A7 n9 c7) tk]) hB7 (one_apart HN7.out) hbs).perm (List.Perm.swap _ _ _)); have HB27 := Lib.hid (HBr.out.trans (hB7.mono hbs)); have hs7 := HB27.out.size; clear hown7 hg7 hB7) | (at_builtin; refine Hold.wpList_grow (R := innB (.slice A7 n9 c7) tk :: innBs vs (T.take k)) rfl _ _ 46 rfl w.heap.size (outB (.slice Ao k co) vs) ir _ 24 Try.underlying46 HIR.out.1 HIR.out.2.1 HIR.out.2.2.1 HIR.out.2.2.2 rfl Nat.one_pos rfl HAJ.out [.slice A7 n9 c7] _ rfl rfl rfl (by intro u hu; rw [List.mem_singleton] at hu; subst hu; rfl) (by show vs.length + 1 ≤ _; have := HVS.out; omega) (by show (vs.length + 1) * 24 ≤ _; have := HVS.out; omega) hs7 ?_; intro v8 w8 hA8 hB8; have HG8 := Lib.hid (BOwn.snoc (by rw [HVS.out, HTK.out]) hA8); have HB8 := Lib.hid (HB27.out.trans hB8); clear hA8 hB8))
    rw [← HNX.out] at HG8
    go_roundw
    case rel => exact ⟨k + 1, by omega, by go_num, HG8, HB8⟩
    case measure => simp [intOf]; omega
  · have hke : k = T.length := by omega
    rw [hke, List.take_of_length_le (Nat.le_refl _)] at HGO
    clear hke htk
    obtain ⟨Aw, cw, hvw⟩ := HGO.out.form
    subst hvw
    obtain ⟨vs, hvs, hap⟩ := HGO.out
    have HVS := Lib.hid hvs
    have HAP := Lib.hid hap
    clear hvs hap
    go_wp2_with fail
    have HSQ := Lib.hid (show Sq T.length (waysT T.length T 0) from ⟨rfl, fun i hi => by
      obtain ⟨l, hl⟩ : ∃ l, T[i]? = some l := ⟨_, List.getElem?_eq_getElem hi⟩
      show (T.getD i []).length = _
      rw [List.getD_eq_getElem?_getD, hl]
      exact HS.out l (List.mem_of_getElem? hl)⟩)
    go_loopw [5] (fun mv wr => ∃ m : Nat, m ≤ T.length ∧ mv = .int .i64 m ∧ Hid (Sq T.length (waysT T.length T m)) ∧ Hid (Hold.Apart wr w.heap.size (outB (.slice Aw T.length cw) vs :: innBs vs (waysT T.length T m))) ∧ Hid (Below w.heap.size w wr)) (fun mv _ => T.length - (intOf mv).toNat)
    case atStart => exact ⟨0, Nat.zero_le _, rfl, HSQ, HAP, HBr⟩
    case round =>
    obtain ⟨m, hm, rfl, HSQ, HAP, HBr⟩ := hrel
    by_cases hlm : m < T.length
    · have HNM := Lib.hid (waysT_next T.length T m)
      obtain ⟨M, hM⟩ : ∃ M, waysT T.length T m = M := ⟨_, rfl⟩
      rw [hM] at HSQ HAP HNM
      clear hM
      go_wp2_with fail
      go_loopw [6] (fun iv wr => ∃ i : Nat, i ≤ T.length ∧ iv = .int .i64 i ∧ Hid (Sq T.length (roundT T.length m M i)) ∧ Hid (Hold.Apart wr w.heap.size (outB (.slice Aw T.length cw) vs :: innBs vs (roundT T.length m M i))) ∧ Hid (Below w.heap.size w wr)) (fun iv _ => T.length - (intOf iv).toNat)
      case atStart => exact ⟨0, Nat.zero_le _, rfl, HSQ, HAP, HBr⟩
      case round =>
      obtain ⟨i, hi, rfl, HSQ, HAP, HBr⟩ := hrel
      by_cases hli : i < T.length
      · have HNI := Lib.hid (roundT_next T.length m M i)
        obtain ⟨R, hR⟩ : ∃ R, roundT T.length m M i = R := ⟨_, rfl⟩
        rw [hR] at HSQ HAP HNI
        clear hR
        go_wp2_with fail
        go_loopw [7] (fun kv wr => ∃ k : Nat, k ≤ T.length ∧ kv = .int .i64 k ∧ Hid (Sq T.length (rowT m R i k)) ∧ Hid (Hold.Apart wr w.heap.size (outB (.slice Aw T.length cw) vs :: innBs vs (rowT m R i k))) ∧ Hid (Below w.heap.size w wr)) (fun kv _ => T.length - (intOf kv).toNat)
        case atStart => exact ⟨0, Nat.zero_le _, rfl, HSQ, HAP, HBr⟩
        case round =>
        obtain ⟨k, hk, rfl, HSQ, HAP, HBr⟩ := hrel
        by_cases hlk : k < T.length
        · have hnk := rowT_next m R i k
          obtain ⟨X, hX⟩ : ∃ X, rowT m R i k = X := ⟨_, rfl⟩
          rw [hX] at HSQ HAP hnk
          clear hX
          have HSQ2 := Lib.hid (show Sq T.length (putT m X i k) from put_sq HSQ.out hli)
          obtain ⟨li, hxi⟩ : ∃ l, X[i]? = some l := ⟨_, List.getElem?_eq_getElem (by rw [HSQ.out.1]; exact hli)⟩
          obtain ⟨lm, hxm⟩ : ∃ l, X[m]? = some l := ⟨_, List.getElem?_eq_getElem (by rw [HSQ.out.1]; exact hlm)⟩
          have gi : X.getD i [] = li := by rw [List.getD_eq_getElem?_getD, hxi]; rfl
          have gm : X.getD m [] = lm := by rw [List.getD_eq_getElem?_getD, hxm]; rfl
          have ei : li.length = T.length := by rw [← gi]; exact HSQ.out.2 i hli
          have em : lm.length = T.length := by rw [← gm]; exact HSQ.out.2 m hlm
          obtain ⟨x1, h1⟩ : ∃ x, li[k]? = some x := ⟨_, List.getElem?_eq_getElem (by omega)⟩
          obtain ⟨x2, h2⟩ : ∃ x, li[m]? = some x := ⟨_, List.getElem?_eq_getElem (by omega)⟩
          obtain ⟨x3, h3⟩ : ∃ x, lm[k]? = some x := ⟨_, List.getElem?_eq_getElem (by omega)⟩
          have hput : putT m X i k = X.set i (li.set k (x1 || (x2 && x3))) := by
            unfold putT tb
            rw [gi, gm, List.getD_eq_getElem?_getD, List.getD_eq_getElem?_getD, List.getD_eq_getElem?_getD, h1, h2, h3]
            rfl
          obtain ⟨ui, hui⟩ : ∃ u, vs[i]? = some u := ⟨_, List.getElem?_eq_getElem (by have := HVS.out; omega)⟩
          obtain ⟨um, hum⟩ : ∃ u, vs[m]? = some u := ⟨_, List.getElem?_eq_getElem (by have := HVS.out; omega)⟩
          obtain ⟨g0, cap, e9, c1⟩ := bcell HAP.out hui
          obtain ⟨g1, cap1, e8, c2⟩ := bcell HAP.out hum
          have hv9 := HVS.out
          rw [hv9] at e9 e8
          simp only [Value.slice.injEq, true_and] at e9 e8
          obtain ⟨rfl, rfl⟩ := e9
          obtain ⟨e8, _⟩ := e8
          simp only [Option.some.injEq, Addr.mk.injEq, and_true] at e8
          subst e8
          obtain ⟨bi, ci, rfl, ri⟩ := bread HAP.out hui hxi (by omega)
          obtain ⟨bm, cm, rfl, rm⟩ := bread HAP.out hum hxm (by omega)
          obtain ⟨hs1, hs2, hs3, hs4⟩ := bstore (j := k) HAP.out hui hxi (by omega)
          have d1 := ri k x1 h1
          have d2 := ri m x2 h2
          have d3 := rm k x3 h3
          have HAP2 := Lib.hid (hs4 (x1 || (x2 && x3)))
          rw [← hput, ← hnk] at HAP2
          rw [← hnk] at HSQ2
          rw [ei] at c1
          rw [em] at c2
          have HB2 := Lib.hid (HBr.out.setCell (p := ⟨bi, k, none⟩) hs1 (.bool (x1 || (x2 && x3))))
          clear hs4 ri rm hui hum hxi hxm gi gm ei em h1 h2 h3 hput hnk hv9
          cases x1 with
          | true =>
            go_wp2_with fail
            go_region
            go_wp2_with fail
            go_roundw
            case rel => exact ⟨k + 1, by omega, by go_num, HSQ2, Lib.hid (by first | exact HAP2.out | exact ⟨HAP2.out.1, HAP2.out.2⟩), Lib.hid (by first | exact HB2.out.drew | exact (HBr.out.drew.setCell hs1 _))⟩
            case measure => simp [intOf]; omega
          | false =>
            cases x2 with
            | false =>
              go_wp2_with fail
              go_region
              go_wp2_with fail
              go_roundw
              case rel => exact ⟨k + 1, by omega, by go_num, HSQ2, Lib.hid (by first | exact HAP2.out | exact ⟨HAP2.out.1, HAP2.out.2⟩), Lib.hid (by first | exact HB2.out.drew | exact (HBr.out.drew.setCell hs1 _))⟩
              case measure => simp [intOf]; omega
            | true =>
              cases x3 with
              | false =>
                go_wp2_with fail
                go_region
                go_wp2_with fail
                go_roundw
                case rel => exact ⟨k + 1, by omega, by go_num, HSQ2, Lib.hid (by first | exact HAP2.out | exact ⟨HAP2.out.1, HAP2.out.2⟩), Lib.hid (by first | exact HB2.out.drew | exact (HBr.out.drew.setCell hs1 _))⟩
                case measure => simp [intOf]; omega
              | true =>
                go_wp2_with fail
                go_region
                go_wp2_with fail
                go_roundw
                case rel => exact ⟨k + 1, by omega, by go_num, HSQ2, Lib.hid (by first | exact HAP2.out | exact ⟨HAP2.out.1, HAP2.out.2⟩), Lib.hid (by first | exact HB2.out.drew | exact (HBr.out.drew.setCell hs1 _))⟩
                case measure => simp [intOf]; omega
        · have hke : k = T.length := by omega
          rw [hke, ← HNI.out] at HSQ HAP
          clear hke
          go_wp2_with fail
          go_roundw
          case rel => exact ⟨i + 1, by omega, by go_num, HSQ, HAP, HBr⟩
          case measure => simp [intOf]; omega
      · have hie : i = T.length := by omega
        rw [hie, ← HNM.out] at HSQ HAP
        clear hie
        go_wp2_with fail
        go_roundw
        case rel => exact ⟨m + 1, by omega, by go_num, HSQ, HAP, HBr⟩
        case measure => simp [intOf]; omega
    · have hme : m = T.length := by omega
      rw [hme] at HAP HSQ
      clear hme
      go_wp2_with fail
      go_ret
      exact ⟨_, rfl, ⟨vs, by rw [HVS.out, HSQ.out.1], HAP.out⟩, HBr.out⟩
end Go.Proofs.Ytiohngbmddfgfaa.Lp11
