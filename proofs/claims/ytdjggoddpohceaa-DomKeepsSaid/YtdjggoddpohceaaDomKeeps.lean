/-
  What is handed in stays; what is answered is new memory.
-/
import Derived.Test.YtdjggoddpohceaaRows
import Derived.Test.YtdjggoddpohceaaLaw10
import Derived.Test.YtdjggoddpohceaaOpenG
import Derived.Test.YtdjggoddpohceaaDomF
import Derived.Deep.RegionHeld3
import Derived.Test.YtdjggoddpohceaaShell
import Derived.ProofKit
import Derived.OpenShut
import Derived.SizedLaws
namespace Go.Proofs.Ytdjggoddpohceaa.domKeeps
open Go.ChangeShapes Go.WideShapes Go.ChangeAt Go.RowKit
open Api Mem Fl9 Dm10 L09 L10
theorem run_app_zero {P : Program} {w : World} (base : Nat) (t ty e : TypeId) (i : TypeInfo) (size : Nat) (ht : P.underlying t = some (.slice e)) (hi : P.info? e = some i)
    (v : Value) (n : Nat) (xs : List Value) (hown : w.ownsRow base e size v n xs) (A : Option Addr) (c : Nat) :
    (Builtin.append_ #[t, t] ty #[v, .slice A 0 c]).run P w = .ok v w := by
  rcases hown.2 with ⟨rfl, rfl⟩ | ⟨g, cap, cur, rfl, _, _, hnc, _⟩
  · cases A <;> simp [Builtin.append_, run_underlying ht, sizeOf, typeInfo, hi, Builtin.lenOf, Builtin.firstCells, loadCells, loadCellsFrom]
  · cases A <;> simp [Builtin.append_, run_underlying ht, sizeOf, typeInfo, hi, Builtin.lenOf, Builtin.firstCells, hnc, storeCells, loadCells, loadCellsFrom]
/-- 'append(s, x...)' where x has no elements. -/
theorem wpList_app_zero {P : Program} {w : World} {ops : Array Oper} {rest : List Oper} {o : Oper} {a : Go.Act} {Q : Exit → Go.Act → World → Prop} (hgd : o.guard = none) (s x : Operand) (t : TypeId)
    (ho : o.op = .call { callee := .builtin .append, args := #[s, x], argTypes := #[t, t] })
    (base : Nat) (e : TypeId) (i : TypeInfo) (size : Nat) (ht : P.underlying t = some (.slice e)) (hi : P.info? e = some i)
    (v : Value) (n : Nat) (xs : List Value) (hs : a.eval s = v) (hown : w.ownsRow base e size v n xs) (A : Option Addr) (c : Nat) (hx : a.eval x = .slice A 0 c)
    (h : wpList P ops Q rest (a.put o.dst v) w) : wpList P ops Q (o :: rest) a w := by
  refine wpList_plain hgd fun K hK => ?_
  have hrun := run_app_zero (P := P) (w := w) base t o.type e i size ht hi v n xs hown A c
  unfold Oper.wp
  simp [execOp, ho, resolve, invoke, builtin, hs, hx, hrun, Result.andThen]
  exact hK _ _ h
theorem apart_one {w : World} {base : Nat} {r : Hold.Rec} (h : w.ownsRow base r.t r.size r.v r.n r.cs) : Hold.Apart w base [r] := by
  refine ⟨fun x hx => ?_, ?_⟩
  · rw [List.mem_singleton] at hx
    subst hx
    exact h
  · cases e : r.v.ownBlock <;> simp [e]
theorem row_cells9 {lo hi : Nat} {w : World} {b o n c : Nat} {l : List Int} (h : Ints lo hi w (.slice (some ⟨b, o, none⟩) n c) l) : ∀ j u, (iC l)[j]? = some u → w.cell? ⟨b, o + j, none⟩ = some u := by
  intro j u hu
  rw [List.getElem?_map] at hu
  obtain ⟨x, hx, rfl⟩ := Option.map_eq_some_iff.1 hu
  obtain ⟨cs, _, rfl, hc⟩ := cell_of h hx (Below.refl _ _)
  exact hc _ rfl
theorem same_len {L P : List (List Int)} {i : Nat} {l p : List Int} (h : L.map List.length = P.map List.length) (hl : L[i]? = some l) (hp : P[i]? = some p) : l.length = p.length := by
  have h2 := congrArg (fun x => x[i]?) h
  simp only [List.getElem?_map, hl, hp, Option.map_some, Option.some.injEq] at h2
  exact h2
theorem len_set {L P : List (List Int)} {i j : Nat} {l : List Int} {x : Int} (h : L.map List.length = P.map List.length) (hl : L[i]? = some l) : (L.set i (l.set j x)).map List.length = P.map List.length := by
  rw [List.map_set, List.length_set, ← h]
  exact set_same (by rw [List.getElem?_map, hl]; rfl)
theorem take_next {g : List (List Int)} {k : Nat} {x : List Int} (h : g[k]? = some x) : g.take k ++ [x] = g.take (k + 1) := by
  obtain ⟨h1, h2⟩ := List.getElem?_eq_some_iff.1 h
  rw [List.take_succ_eq_append_getElem h1, h2]
theorem take_lenk {g : List (List Int)} {k : Nat} (h : k ≤ g.length) : (g.take k).length = k := by
  rw [List.length_take]; omega
/-- one number of one of the rows written; another row stands beside. -/
theorem store10 {w : World} {base : Nat} {v u : Value} {vs : List Value} {L : List (List Int)} {i j : Nat} {l : List Int} {r : Hold.Rec} (h : Hold.Apart w base (r :: outR v vs :: inn vs L)) (hu : vs[i]? = some u) (hl : L[i]? = some l) (hj : j < l.length) :
    ∃ b c, u = .slice (some ⟨b, 0, none⟩) l.length c ∧ base ≤ b ∧ b < w.heap.size ∧ (∃ y, w.cell? ⟨b, j, none⟩ = some y) ∧ w.frozen? ⟨b, j, none⟩ = false ∧ ∀ x : Int, Hold.Apart (w.setCell ⟨b, j, none⟩ (i64 x)) base (r :: outR v vs :: inn vs (L.set i (l.set j x))) := by
  obtain ⟨rest, hr⟩ := inn_at hu hl
  have h0 := hr u l
  rw [set_same hu, set_same hl] at h0
  have ha : Hold.Apart w base (innR u l :: r :: outR v vs :: rest) := h.perm ((((h0.cons _).cons _).trans (((List.Perm.swap _ _ _)).cons _)).trans (List.Perm.swap _ _ _))
  have ho : w.ownsRow base 3 1 u l.length (iC l) := ha.head
  obtain ⟨b, c, e, hb1, hb2, _⟩ := form9 ho (by omega)
  subst e
  refine ⟨b, c, rfl, hb1, hb2, ⟨_, (ho.cellAt j (by omega)).trans (List.getElem?_eq_getElem (by simp; exact hj))⟩, ho.frozenAt j, fun x => ?_⟩
  have h2 := (ha.store (g := b) (cap := c) (q := j) (u := i64 x) rfl)
  have e2 : ({ innR (.slice (some ⟨b, 0, none⟩) l.length c) l with cs := (innR (.slice (some ⟨b, 0, none⟩) l.length c) l).cs.set j (i64 x) } : Hold.Rec) = innR (.slice (some ⟨b, 0, none⟩) l.length c) (l.set j x) := by
    simp [innR, iC, List.map_set]
  rw [e2] at h2
  have h3 := hr (.slice (some ⟨b, 0, none⟩) l.length c) (l.set j x)
  rw [set_same hu] at h3
  exact h2.perm ((List.Perm.swap _ _ _).trans (((List.Perm.swap _ _ _).cons _).trans ((h3.symm.cons _).cons _)))
/-- one number of the row beside written. -/
theorem beside10 {w : World} {base : Nat} {u : Value} {q : List Int} {j : Nat} {R : List Hold.Rec} (h : Hold.Apart w base (innR u q :: R)) (hj : j < q.length) : ∃ b c, u = .slice (some ⟨b, 0, none⟩) q.length c ∧ base ≤ b ∧ b < w.heap.size ∧ (∃ y, w.cell? ⟨b, j, none⟩ = some y) ∧ w.frozen? ⟨b, j, none⟩ = false ∧ ∀ x : Int, Hold.Apart (w.setCell ⟨b, j, none⟩ (i64 x)) base (innR u (q.set j x) :: R) := by
  have ho : w.ownsRow base 3 1 u q.length (iC q) := h.head
  obtain ⟨b, c, e, hb1, hb2, _⟩ := form9 ho (by omega)
  subst e
  refine ⟨b, c, rfl, hb1, hb2, ⟨_, (ho.cellAt j (by omega)).trans (List.getElem?_eq_getElem (by simp; exact hj))⟩, ho.frozenAt j, fun x => ?_⟩
  have h2 := (h.store (g := b) (cap := c) (q := j) (u := i64 x) rfl)
  have e2 : ({ innR (.slice (some ⟨b, 0, none⟩) q.length c) q with cs := (innR (.slice (some ⟨b, 0, none⟩) q.length c) q).cs.set j (i64 x) } : Hold.Rec) = innR (.slice (some ⟨b, 0, none⟩) q.length c) (q.set j x) := by
    simp [innR, iC, List.map_set]
  rw [e2] at h2
  exact h2
set_option maxRecDepth 100000 in
set_option maxHeartbeats 16000000 in
theorem walk (v : Value) (g : List (List Int)) {w : World} (hq : Graph 0 w.heap.size w v g ∧ ∀ l ∈ g, ∀ x ∈ l, NumM.In x) :
    Calls Try.prog 8 #[v] w fun e w' => e = .returned (.bool true) ∧ Below w.heap.size w w' := by
  obtain ⟨hg, hin⟩ := hq
  obtain ⟨A1, k1, rfl⟩ := Row.form hg
  have hgl : g.length ≤ 4611686018427387903 := by obtain ⟨_, _, _, h, _⟩ := Row.get hg; exact h
  have HG := Lib.hid hg
  have HIN := Lib.hid hin
  clear hg hin
  go_enter Try.func8, Try.ntmps8
  go_wp2_with fail
  refine (awake10_any w).mono ?_
  rintro e w1 ⟨rfl, hb1⟩
  have HX1 := Lib.hid hb1
  clear hb1
  go_wp2_with fail
  refine (few10_any 0 w.heap.size w1 _ g (Graph.move (Still.of_below HX1.out) HG.out) HX1.out.size).mono ?_
  rintro e w2 ⟨b2, rfl, hfew, hb2⟩
  have HX2 := Lib.hid (HX1.out.trans (hb2.mono HX1.out.size))
  clear hb2
  cases b2 with
  | false =>
    clear hfew
    go_wp2_with fail
    refine (awake10_any w2).mono ?_
    rintro e w3 ⟨rfl, hb3⟩
    have HX3 := Lib.hid (HX2.out.trans (hb3.mono HX2.out.size))
    clear hb3
    go_wp2_with fail
    go_ret
    exact ⟨rfl, HX3.out⟩
  | true =>
    have hfw := hfew rfl
    have hfl : g.length ≤ 24 := by have := hfw.1; omega
    have HFW := Lib.hid hfw
    clear hfew hfw
    have HN := Lib.hid (show g.length ≤ 1000 by omega)
    obtain ⟨ii, hi1, hi2, hi3, hi4⟩ := info_in9
    have HII : Hid (Try.prog.info? 3 = some ii ∧ ii.zero = some (.int .i64 0) ∧ ii.size = 1 ∧ ii.bytes = 8) := Lib.hid ⟨hi1, hi2, hi3, hi4⟩
    clear hi1 hi2 hi3 hi4
    obtain ⟨ir, hr1, hr2, hr3, hr4⟩ := info_parts info_row9
    have HIR : Hid (Try.prog.info? 25 = some ir ∧ ir.zero = some (.slice none 0 0) ∧ ir.size = 1 ∧ ir.bytes = 24) := Lib.hid ⟨hr1, hr2, hr3, hr4⟩
    clear hr1 hr2 hr3 hr4
    go_wp2_with fail
    go_loopw [3, 4] (fun vo i wr => ∃ k : Nat, k ≤ g.length ∧ i = .int .i64 k ∧ Hid (GOwn wr w2.heap.size vo (g.take k)) ∧ Hid (Below w2.heap.size w2 wr)) (fun _ i _ => g.length - (intOf i).toNat)
    case atStart => exact ⟨0, Nat.zero_le _, rfl, Lib.hid ⟨[], rfl, (Hold.Apart.nil w2 w2.heap.size).empty 25 1⟩, Lib.hid (Below.refl _ _)⟩
    case round =>
    obtain ⟨k, hk, rfl, HGO, HBr⟩ := hrel
    by_cases hlt : k < g.length
    · obtain ⟨Ao, co, hvo⟩ := HGO.out.form
      rw [take_lenk hk] at hvo
      subst hvo
      obtain ⟨vs, hvs, hap⟩ := HGO.out
      rw [take_lenk hk] at hvs
      have HVS := Lib.hid hvs
      have HAP := Lib.hid hap
      obtain ⟨gk, hgk⟩ : ∃ x, g[k]? = some x := ⟨_, List.getElem?_eq_getElem hlt⟩
      have HXW := Lib.hid (HX2.out.trans (HBr.out.mono HX2.out.size))
      obtain ⟨b1, o1, rfl⟩ := addr_of9 HG.out (by omega)
      obtain ⟨c1, _, ⟨u1, rfl, kx⟩, n1⟩ := cell_of HG.out hgk HXW.out
      obtain ⟨A3, k3, rfl⟩ := Row.form kx
      have m1 := n1 _ rfl
      have hgl2 : gk.length ≤ 20 := HFW.out.2 gk (List.mem_of_getElem? hgk)
      have KX := Lib.hid kx
      have HGK := Lib.hid hgk
      have hbs := HXW.out.size
      have hb2 := HBr.out.size
      have m2 := ((alloc_up wr (.cells #[] 3)).cell (p := ⟨b1, o1 + k, none⟩) (World.block_lt_of_cell? wr _ m1)).trans m1
      have HE := Lib.hid (show (wr.alloc (.cells #[] 3)).ownsRow wr.heap.size 3 1 (.slice (some ⟨wr.heap.size, 0, none⟩) 0 0) 0 [] by
        have := World.ownsRow_lit (base := wr.heap.size) (e := 3) (size := 1) wr #[] 0 (Nat.le_refl _) (by unfold maxLen; omega) rfl
        simpa using this)
      have HXE := Lib.hid (HXW.out.trans ((alloc_up wr (.cells #[] 3)).mono hbs))
      have hE2 : wr.heap.size ≤ (wr.alloc (.cells #[] 3)).heap.size := by simp
      have KX2 := Lib.hid (show Ints 0 w.heap.size (wr.alloc (.cells #[] 3)) (.slice A3 gk.length k3) gk from Ints.move (Still.of_below HXE.out) (Ints.move (Still.wide _ (Nat.le_refl _) (Nat.le_refl _)) (by exact (Row.move kx (fun k _ _ => rfl) (Nat.le_refl _) (Nat.le_refl _) (fun _ _ h => h)))))
      clear hvs hap HGO n1 kx hgk
      by_cases h0 : gk.length = 0
      · obtain rfl : gk = [] := List.eq_nil_of_length_eq_zero h0
        have HAJ := Lib.hid ((HAP.out.join (R2 := [innR (.slice (some ⟨wr.heap.size, 0, none⟩) 0 0) []]) (alloc_up wr (.cells #[] 3)) (apart_one HE.out) hb2).perm (List.Perm.swap _ _ _))
        have HB27 := Lib.hid (HBr.out.trans ((alloc_up wr (.cells #[] 3)).mono hb2))
        have hs7 : w2.heap.size ≤ (wr.alloc (.cells #[] 3)).heap.size := Nat.le_trans hb2 hE2
        go_wp2_with (first | (at_builtin; refine wpList_app_zero rfl _ _ 25 rfl wr.heap.size 3 ii 1 Try.underlying25 HII.out.1 (.slice (some ⟨wr.heap.size, 0, none⟩) 0 0) 0 [] rfl HE.out A3 k3 rfl ?_) | (at_builtin; refine Hold.wpList_grow (R := innR (.slice (some ⟨wr.heap.size, 0, none⟩) 0 0) [] :: inn vs (g.take k)) rfl _ _ 22 rfl w2.heap.size (outR (.slice Ao k co) vs) ir _ 24 Try.underlying22 HIR.out.1 HIR.out.2.1 HIR.out.2.2.1 HIR.out.2.2.2 rfl Nat.one_pos rfl HAJ.out [.slice (some ⟨wr.heap.size, 0, none⟩) 0 0] _ (by simp) rfl rfl (by intro u hu; rw [List.mem_singleton] at hu; subst hu; rfl) (by show vs.length + 1 ≤ _; have := HVS.out; omega) (by show (vs.length + 1) * 24 ≤ _; have := HVS.out; omega) hs7 ?_; intro v8 w8 hA8 hB8; have HG8 := Lib.hid (GOwn.snoc (by rw [HVS.out, take_lenk hk]) hA8); have HB8 := Lib.hid (HB27.out.trans hB8); clear hA8 hB8))
        rw [show g.take k ++ [[]] = g.take (k + 1) from take_next HGK.out] at HG8
        go_roundw
        case rel => exact ⟨k + 1, by omega, by go_num, HG8, HB8⟩
        case measure => simp [intOf]; omega
      · obtain ⟨b2, o2, rfl⟩ := addr_of9 KX.out (by omega)
        have hgl0 : 0 < gk.length := by omega
        clear h0
        go_wp2_with (first | (at_builtin; refine read_own9 rfl _ _ 25 rfl wr.heap.size 3 _ 1 8 Try.underlying25 info_int9 rfl (by decide) (.slice (some ⟨wr.heap.size, 0, none⟩) 0 0) 0 [] rfl HE.out b2 o2 gk.length k3 (iC gk) rfl (by simp [iC]) (row_cells9 KX2.out) (by intro u hu; obtain ⟨b, _, rfl⟩ := List.mem_map.1 hu; rfl) (by unfold maxLen; omega) (by omega) hE2 ?_; intro v7 w7 hown7 hg7; have hB7 := ((alloc_up wr (.cells #[] 3)).grown hg7 hE2 (fun q hq => (HE.out.lt q hq).1)); obtain ⟨A7, c7, e7⟩ := any9 hown7; rw [Nat.zero_add] at e7; subst e7; have HN7 := Lib.hid (show w7.ownsRow wr.heap.size 3 1 (.slice A7 gk.length c7) gk.length (iC gk) by have := hown7; simpa using this); have HAJ := Lib.hid ((HAP.out.join (R2 := [innR (.slice A7 gk.length c7) gk]) hB7 (apart_one HN7.out) hb2).perm (List.Perm.swap _ _ _)); have HB27 := Lib.hid (HBr.out.trans (hB7.mono hb2)); have hs7 := HB27.out.size; clear hown7 hg7 hB7) | (at_builtin; refine Hold.wpList_grow (R := innR (.slice A7 gk.length c7) gk :: inn vs (g.take k)) rfl _ _ 22 rfl w2.heap.size (outR (.slice Ao k co) vs) ir _ 24 Try.underlying22 HIR.out.1 HIR.out.2.1 HIR.out.2.2.1 HIR.out.2.2.2 rfl Nat.one_pos rfl HAJ.out [.slice A7 gk.length c7] _ rfl rfl rfl (by intro u hu; rw [List.mem_singleton] at hu; subst hu; rfl) (by show vs.length + 1 ≤ _; have := HVS.out; omega) (by show (vs.length + 1) * 24 ≤ _; have := HVS.out; omega) hs7 ?_; intro v8 w8 hA8 hB8; have HG8 := Lib.hid (GOwn.snoc (by rw [HVS.out, take_lenk hk]) hA8); have HB8 := Lib.hid (HB27.out.trans hB8); clear hA8 hB8))
        rw [show g.take k ++ [gk] = g.take (k + 1) from take_next HGK.out] at HG8
        go_roundw
        case rel => exact ⟨k + 1, by omega, by go_num, HG8, HB8⟩
        case measure => simp [intOf]; omega
    · have hke : k = g.length := by omega
      rw [hke, List.take_of_length_le (Nat.le_refl _)] at HGO
      clear hke
      obtain ⟨Aw, cw, hvw⟩ := HGO.out.form
      subst hvw
      have HXW := Lib.hid (HX2.out.trans (HBr.out.mono HX2.out.size))
      obtain ⟨wa, hwae⟩ : ∃ wa, wa = wr := ⟨_, rfl⟩
      subst hwae
      go_wp2_with fail
      have HWG := Lib.hid (HGO.out.graph (Nat.le_refl _) (by omega) (fun l hl => by have := HFW.out.2 l hl; omega))
      have hwa := HXW.out.size
      refine (near_any 0 w.heap.size wa _ g (Graph.move (Still.of_below HXW.out) HG.out) HXW.out.size (by omega)).mono ?_
      rintro e w5 ⟨vn, rfl, ho, hb, _, _⟩
      obtain ⟨An, cn, e9⟩ := any9 ho
      subst e9
      have HU5 := Lib.hid hb
      have hw5 := hb.size
      have HX5 := Lib.hid (HXW.out.trans (hb.mono hwa))
      have hnl := nearest_len g
      have HA5 := Lib.hid (apart_one (r := innR (.slice An g.length cn) (nearestV g)) (by unfold innR; rw [hnl]; exact ho))
      clear ho hb HGO
      go_wp2_with fail
      refine (front_any 0 w.heap.size w5 _ g (Graph.move (Still.of_below HX5.out) HG.out) HX5.out.size (by omega)).mono ?_
      rintro e w6 ⟨vf, rfl, ho, hb⟩
      obtain ⟨Af, cf, e9⟩ := ho.form
      rw [front_len] at e9
      subst e9
      obtain ⟨vs, hvs, hap⟩ := ho
      rw [front_len] at hvs
      have HVS := Lib.hid hvs
      have HA6 := Lib.hid ((HA5.out.join hb hap hw5).perm (List.perm_append_comm (l₂ := [innR (.slice An g.length cn) (nearestV g)])))
      have HU6 := Lib.hid (HU5.out.trans (hb.mono hw5))
      obtain ⟨P, hPe⟩ : ∃ P, frontV g = P := ⟨_, rfl⟩
      obtain ⟨q0, hqe⟩ : ∃ q, nearestV g = q := ⟨_, rfl⟩
      have HPL := Lib.hid (show P.length = g.length by rw [← hPe]; exact front_len g)
      have HPS := Lib.hid (show ∀ l ∈ P, l.length ≤ g.length by rw [← hPe]; intro l hl; obtain ⟨i, _, rfl⟩ := List.mem_map.1 hl; exact fv_len g i g.length)
      rw [hPe, hqe] at HA6
      rw [hqe] at hnl
      have HQL := Lib.hid hnl
      clear hvs hap hb HA5 hPe hqe hnl
      go_wp2_with fail
      go_loopw [7] (fun iv wr => ∃ (i : Nat) (L : List (List Int)) (q : List Int), i ≤ g.length ∧ iv = .int .i64 i ∧ Hid (L.map List.length = P.map List.length) ∧ Hid (q.length = g.length) ∧ Hid (Hold.Apart wr wa.heap.size (innR (.slice An g.length cn) q :: outR (.slice Af g.length cf) vs :: inn vs L)) ∧ Hid (Below wa.heap.size wa wr)) (fun iv _ => g.length - (intOf iv).toNat)
      case atStart => exact ⟨0, P, q0, Nat.zero_le _, rfl, Lib.hid rfl, HQL, HA6, HU6⟩
      case round =>
      obtain ⟨i, L, q, hi9, rfl, HLE, HQ, HAP, HU⟩ := hrel
      have hLl : L.length = g.length := by have := congrArg List.length HLE.out; simp only [List.length_map] at this; rw [this]; exact HPL.out
      by_cases hlt : i < g.length
      · obtain ⟨bn, cn2, e9, hbn1, hbn2, ⟨y, hy⟩, hbn4, hbn5⟩ := beside10 HAP.out (j := i) (by rw [HQ.out]; exact hlt)
        rw [HQ.out] at e9
        simp only [Value.slice.injEq] at e9
        obtain ⟨rfl, hz9, rfl⟩ := e9; clear hz9
        have HAP1 := Lib.hid (hbn5 7)
        have HQ1 := Lib.hid (show (q.set i 7).length = g.length by rw [List.length_set]; exact HQ.out)
        have HU1 := Lib.hid (HU.out.setCell (p := ⟨bn, i, none⟩) hbn1 (i64 7))
        obtain ⟨W1, hW1⟩ : ∃ W, wr.setCell ⟨bn, i, none⟩ (i64 7) = W := ⟨_, rfl⟩
        have HW1 := Lib.hid (show wr.setCell ⟨bn, i, none⟩ (.int .i64 7) = W1 from hW1)
        rw [hW1] at HAP1 HU1
        obtain ⟨u, hu⟩ : ∃ u, vs[i]? = some u := ⟨_, List.getElem?_eq_getElem (by have := HVS.out; omega)⟩
        obtain ⟨l, hl⟩ : ∃ l, L[i]? = some l := ⟨_, List.getElem?_eq_getElem (by omega)⟩
        obtain ⟨p, hp⟩ : ∃ p, P[i]? = some p := ⟨_, List.getElem?_eq_getElem (by have := HPL.out; omega)⟩
        have hlp := same_len HLE.out hl hp
        have hpl : p.length ≤ 1000 := by have := HPS.out p (List.mem_of_getElem? hp); omega
        obtain ⟨Au, cu, hue⟩ := any9 (w := W1) (v := u) (HAP1.out.1 (innR u l) (by simp [inn_get hu hl]))
        obtain rfl : u = .slice Au l.length cu := hue
        obtain ⟨bl, cl2, e9, hbl1, hbl2, _⟩ := form9 (w := W1) (v := .slice Af g.length cf) HAP1.out.tail.head (by show 0 < vs.length; have := HVS.out; omega)
        simp only [Value.slice.injEq] at e9
        obtain ⟨rfl, hz9, rfl⟩ := e9; clear hz9
        have c1 := ((thaw9 (i := i) (HAP1.out.tail.head : W1.ownsRow _ _ _ _ _ _)).2.2 (by show i < vs.length * 1; have := HVS.out; omega)).trans hu
        rw [hlp] at c1 hu
        have HUK := Lib.hid hu
        have HPK := Lib.hid hp
        clear hl hu hp hlp hbn5 hW1
        go_wp2_with fail
        rw [HW1.out]
        go_loopw [8] (fun jv wr => ∃ (j : Nat) (L : List (List Int)), j ≤ p.length ∧ jv = .int .i64 j ∧ Hid (L.map List.length = P.map List.length) ∧ Hid (Hold.Apart wr wa.heap.size (innR (.slice (some ⟨bn, 0, none⟩) g.length cn) (q.set i 7) :: outR (.slice (some ⟨bl, 0, none⟩) g.length cf) vs :: inn vs L)) ∧ Hid (Below wa.heap.size wa wr)) (fun jv _ => p.length - (intOf jv).toNat)
        case atStart => exact ⟨0, L, Nat.zero_le _, rfl, HLE, HAP1, HU1⟩
        case round =>
        obtain ⟨j, L, hj, rfl, HLE, HAP, HU⟩ := hrel
        have hLl : L.length = g.length := by have := congrArg List.length HLE.out; simp only [List.length_map] at this; rw [this]; exact HPL.out
        obtain ⟨l, hl⟩ : ∃ l, L[i]? = some l := ⟨_, List.getElem?_eq_getElem (by omega)⟩
        have hlp := same_len HLE.out hl HPK.out
        have c1 := ((thaw9 (i := i) (HAP.out.tail.head : wr.ownsRow _ _ _ _ _ _)).2.2 (by show i < vs.length * 1; have := HVS.out; omega)).trans HUK.out
        by_cases hlt2 : j < p.length
        · obtain ⟨b, c, e9, hb1, hb2, ⟨y, hy⟩, hb4, hb5⟩ := store10 HAP.out HUK.out hl (j := j) (by omega)
          simp only [Value.slice.injEq] at e9
          obtain ⟨rfl, hz9, rfl⟩ := e9; clear hz9
          have HAP2 := Lib.hid (hb5 (-7))
          have HU2 := Lib.hid (HU.out.setCell (p := ⟨b, j, none⟩) hb1 (i64 (-7)))
          have HLE2 := Lib.hid (len_set (j := j) (x := -7) HLE.out hl)
          clear hb5 hl hlp
          go_wp2_with fail
          go_roundw
          case rel => exact ⟨j + 1, _, by omega, by go_num, HLE2, HAP2, HU2⟩
          case measure => simp [intOf]; omega
        · go_wp2_with fail
          go_roundw
          case rel => exact ⟨i + 1, L, _, by omega, by go_num, HLE, HQ1, HAP, HU⟩
          case measure => simp [intOf]; omega
      · have HXE := Lib.hid (HXW.out.trans (HU.out.mono hwa))
        have HGE := Lib.hid (Graph.move (Still.of_below HXE.out) HG.out)
        have HWE := Lib.hid (Graph.move (still_up HU.out HU.out.size) HWG.out)
        have hxs := HXE.out.size
        go_wp2_with fail
        refine (yes9 (lists_any 0 wr.heap.size wr _ _ g g (Graph.move (Still.wide _ (Nat.le_refl _) hxs) HGE.out) HWE.out (Nat.le_refl _)) rfl).mono ?_
        rintro e w8 ⟨rfl, hb⟩
        have HX8 := Lib.hid (HXE.out.trans (hb.mono hxs))
        clear hb
        go_wp2_with fail
        refine (near_any 0 w.heap.size w8 _ g (Graph.move (Still.of_below HX8.out) HG.out) HX8.out.size (by omega)).mono ?_
        rintro e w9 ⟨vo9, rfl, ho, hb, _, _⟩
        have HX9 := Lib.hid (HX8.out.trans (hb.mono HX8.out.size))
        have HR9 := Lib.hid (ints_own (l := nearestV g) (hi := w9.heap.size) (by rw [nearest_len]; exact ho) (Nat.le_refl _) (by rw [nearest_len]; omega))
        clear ho hb
        go_wp2_with fail
        refine (nearest_any 0 w.heap.size w9 _ g (Graph.move (Still.of_below HX9.out) HG.out) HX9.out.size (by omega) (fun l hl => by have := HFW.out.2 l hl; omega)).mono ?_
        rintro e w10 ⟨vp10, rfl, ho, hb⟩
        have HX10 := Lib.hid (HX9.out.trans (hb.mono HX9.out.size))
        have HU10 := Lib.hid hb
        have HP10 := Lib.hid (ints_own (l := nearestV g) (hi := w10.heap.size) (by rw [nearest_len]; exact ho) (Nat.le_refl _) (by rw [nearest_len]; omega))
        clear ho hb
        go_wp2_with fail
        refine (yes9 (same_any 0 w10.heap.size w10 _ _ (nearestV g) (nearestV g) (Ints.move (still_up HU10.out HU10.out.size) HR9.out) (Ints.move (Still.wide _ (Nat.zero_le _) (Nat.le_refl _)) HP10.out) (Nat.le_refl _)) rfl).mono ?_
        rintro e w11 ⟨rfl, hb⟩
        have HX11 := Lib.hid (HX10.out.trans (hb.mono HX10.out.size))
        clear hb
        go_wp2_with fail
        go_ret
        exact ⟨rfl, HX11.out⟩

set_option maxRecDepth 100000 in
theorem lifted (os : Os) (started : os.Started) (H : Type) (enc : TypeId × Value → H) :
    ReturnsInHanded {} Try.checked os 8 .any (Rows.domKeepsSpec.pre6 enc Try.prog Try.f8 Rows.domKeepsRow.domain false) (Rows.domKeepsSpec.post enc Try.prog Try.f8 false true false false) := by
  refine returnsInHanded_of_change_sized (C := Try.checked) (by kernel_rfl) started (by kernel_rfl) Try.func8
    (ChangeSpec.witness6 (enc := enc) (C := Try.checked) false ⟨#[], #[.slice none 0 0], []⟩ 8 (by kernel_rfl) (by kernel_rfl) (by kernel_rfl) (by kernel_rfl)) ?_
  intro W base args ds gs before hval0 hW hcnd hsz0 _
  have hval : ∀ (j : Nat) t v, Try.f8.params[j]? = some t → args[j]? = some v → Value.okWide Try.prog W .any base t v := hval0
  have hW' := hW
  obtain ⟨p, q, hA0, hV, rfl, hfz, hnd⟩ := hW
  have hsz : (DataW.weightsEach Try.prog (Try.f8.params.toList ++ Rows.domKeepsSpec.plain.varTypes Try.prog) (ds ++ gs)).all (· ≤ reachBytes) = true := hsz0
  have hA : DataW.TrodAll enc Try.prog W 0 (fun _ => true) true Try.f8.params.toList args.toList ds p := hA0
  rw [Try.params8] at hA hval hsz
  obtain ⟨v0, vs0, d0, ds0, p0, q0, hargs, rfl, rfl, h0, r0⟩ := trodAll_cons hA
  obtain ⟨rfl, rfl, rfl⟩ := trodAll_nil r0
  obtain rfl : args = #[v0] := by cases args; simp_all
  obtain ⟨rfl, rfl⟩ := trodVars_none hV
  obtain ⟨xs0, hG0⟩ := OpenG.open_graph hsz (j := 0) rfl rfl (hval 0 22 v0 rfl rfl) h0
  clear hA0 hval0
  simp only [List.append_nil] at hW'
  refine (walk v0 xs0 hG0).mono fun e W' ⟨he, hg⟩ => ?_
  subst he
  exact ⟨_, rfl, Shell.lawPost (by kernel_rfl) rfl (by kernel_rfl) rfl Try.underlying4 hW' rfl hg⟩

/-- The statement. -/
theorem proved : Rows.DomKeepsSaid :=
  OpenClaim.holds_of_wide 8 Try.f8 rfl rfl rfl rfl rfl rfl rfl ⟨rfl, rfl, rfl, rfl, rfl⟩ rfl rfl rfl rfl rfl (by kernel_rfl) Try.func8 (by kernel_rfl)
    (of_decide_eq_true (by kernel_rfl)) (by unfold Func.isWrapper; first | (rw [if_pos (by decide +kernel)]; kernel_rfl) | (rw [if_neg (by decide +kernel)]; exact ⟨rfl, rfl⟩))
    (fun os started H enc _ => lifted os started H enc)
end Go.Proofs.Ytdjggoddpohceaa.domKeeps
