/-
  Layer 7: the example that its statements share.
-/
import Derived.Test.YtikfncgdjnljiaaDoorTyHead
namespace Go.Proofs.YtikfncgdjnljiaaDoor.L07
open Go.RowKit Api Syn WordM Mem Ty7

theorem made7 {w : World} {g : Nat} (hg : g = w.heap.size) (t : TypeId) (cs : List Value) : Own (w.alloc (.cells cs.toArray t)) g t cs := hg ▸ Own.made w t cs
theorem zero7 {α : Type} {hi size : Nat} {w : World} {P : List Value → α → Prop} : Row 0 hi w size P (.slice none 0 0) ([] : List α) := ⟨none, 0, 0, 0, 0, rfl, rfl, by omega, by omega, fun i x h => by simp at h⟩
abbrev exF : Api.Func := ⟨[102], [80], [⟨[111], [80]⟩], [⟨[120], [105, 110, 116]⟩, ⟨[121], [105, 110, 116]⟩], []⟩
abbrev exP : Prog := ⟨false, [⟨[80], [⟨[97], [105, 110, 116]⟩]⟩], [], [], [exF]⟩
theorem one7 {α : Type} {hi size : Nat} {w : World} {g : Nat} {t : TypeId} {cs : List Value} {P : List Value → α → Prop} {x : α} (o : Own w g t cs) (hg : g < hi) (hs : cs.length = size) (hp : P cs x) : Row 0 hi w size P (.slice (some ⟨g, 0, none⟩) 1 1) [x] := by
  refine ⟨_, 1, 1, g, 0, rfl, rfl, ⟨by omega, by omega⟩, fun _ => ⟨rfl, Nat.zero_le _, hg⟩, fun i y hy => ?_⟩
  match i, hy with
  | 0, hy =>
    obtain rfl : x = y := by simpa using hy
    exact ⟨cs, hs, fun j u hj => by rw [show 0 + 0 * size + j = j by omega]; exact (o.cell j).trans hj, hp⟩
  | i + 1, hy => simp at hy
theorem two7 {hi : Nat} {w : World} {g : Nat} {x y : Var} (o : Own w g 40 [str x.name, str x.type, str y.name, str y.type]) (hg : g < hi) : Vars 0 hi w (.slice (some ⟨g, 0, none⟩) 2 2) [x, y] := by
  refine ⟨_, 2, 2, g, 0, rfl, rfl, ⟨by omega, by omega⟩, fun _ => ⟨rfl, Nat.zero_le _, hg⟩, fun i z hz => ?_⟩
  match i, hz with
  | 0, hz =>
    obtain rfl : x = z := by simpa using hz
    refine ⟨varC x, rfl, fun j u hj => ?_, rfl⟩
    have hj2 := (List.getElem?_eq_some_iff.1 hj).1
    simp only [varC, List.length_cons, List.length_nil] at hj2
    rw [show 0 + 0 * 2 + j = j by omega, o.cell]
    match j, hj with
    | 0, hj => exact hj
    | 1, hj => exact hj
    | j + 2, hj => simp [varC] at hj
  | 1, hz =>
    obtain rfl : y = z := by simpa using hz
    refine ⟨varC y, rfl, fun j u hj => ?_, rfl⟩
    rw [o.cell]
    match j, hj with
    | 0, hj => exact hj
    | 1, hj => exact hj
    | j + 2, hj => simp [varC] at hj
  | i + 2, hz => simp at hz
theorem ex_fin {w : World} {bp bv ba bc bf : Nat} (oP : Own w bp 40 [str [111], str [80]]) (oV : Own w bv 40 [str [120], str [105, 110, 116], str [121], str [105, 110, 116]]) (oA : Own w ba 40 [str [97], str [105, 110, 116]]) (oC : Own w bc 36 [str [80], .slice (some ⟨ba, 0, none⟩) 1 1]) (oF : Own w bf 30 [str [102], str [80], .slice (some ⟨bp, 0, none⟩) 1 1, .slice (some ⟨bv, 0, none⟩) 2 2, .slice none 0 0]) :
    ProgC 0 w.heap.size w [.bool false, .slice (some ⟨bc, 0, none⟩) 1 1, .slice none 0 0, .slice none 0 0, .slice (some ⟨bf, 0, none⟩) 1 1] exP ∧ FuncC 0 w.heap.size w [str [102], str [80], .slice (some ⟨bp, 0, none⟩) 1 1, .slice (some ⟨bv, 0, none⟩) 2 2, .slice none 0 0] exF := by
  have hF : FuncC 0 w.heap.size w [str [102], str [80], .slice (some ⟨bp, 0, none⟩) 1 1, .slice (some ⟨bv, 0, none⟩) 2 2, .slice none 0 0] exF := ⟨_, _, _, rfl, one7 oP oP.lt rfl rfl, two7 oV oV.lt, zero7⟩
  exact ⟨⟨_, _, _, _, rfl, one7 oC oC.lt rfl ⟨_, rfl, one7 oA oA.lt rfl rfl⟩, zero7, zero7, one7 oF oF.lt rfl hF⟩, hF⟩
theorem own_far7 {w : World} {t : TypeId} {b : Nat} {cs : List Value} (h : Own w b t cs) {k : Nat} (i : Nat) (u : Value) (hk : b ≠ k) : Own (w.setCell ⟨k, i, none⟩ u) b t cs := (Below.heap_setCell _ _ _ _ hk).trans h
theorem boxes7 {W4 WS : World} {s : Nat} {tp tf tv : TypeId} {a0 a1 a2 a3 a4 b0 b1 b2 b3 b4 v0 v1 v2 v3 v4 v5 v6 v7 v8 v9 : Value} {cp cv : List Value} (oA : Own W4 s tp [a0, a1, a2, a3, a4]) (oB : Own W4 (s + 1) tf [b0, b1, b2, b3, b4]) (oP : Own W4 (s + 1 + 1) tv cp) (oV : Own W4 (s + 1 + 1 + 1) tv cv)
    (h : ((((((((((W4.setCell ⟨s, 0, none⟩ v0).setCell ⟨s, 1, none⟩ v1).setCell ⟨s, 2, none⟩ v2).setCell ⟨s, 3, none⟩ v3).setCell ⟨s, 4, none⟩ v4).setCell ⟨s + 1, 0, none⟩ v5).setCell ⟨s + 1, 1, none⟩ v6).setCell ⟨s + 1, 2, none⟩ v7).setCell ⟨s + 1, 3, none⟩ v8).setCell ⟨s + 1, 4, none⟩ v9) = WS) : Own WS s tp [v0, v1, v2, v3, v4] ∧ Own WS (s + 1) tf [v5, v6, v7, v8, v9] ∧ Own WS (s + 1 + 1) tv cp ∧ Own WS (s + 1 + 1 + 1) tv cv ∧ Below s W4 WS ∧ WS.heap.size = W4.heap.size := by
  subst h
  refine ⟨?_, ?_, (own_far7 (own_far7 (own_far7 (own_far7 (own_far7 (own_far7 (own_far7 (own_far7 (own_far7 (own_far7 oP 0 v0 (by omega)) 1 v1 (by omega)) 2 v2 (by omega)) 3 v3 (by omega)) 4 v4 (by omega)) 0 v5 (by omega)) 1 v6 (by omega)) 2 v7 (by omega)) 3 v8 (by omega)) 4 v9 (by omega)), (own_far7 (own_far7 (own_far7 (own_far7 (own_far7 (own_far7 (own_far7 (own_far7 (own_far7 (own_far7 oV 0 v0 (by omega)) 1 v1 (by omega)) 2 v2 (by omega)) 3 v3 (by omega)) 4 v4 (by omega)) 0 v5 (by omega)) 1 v6 (by omega)) 2 v7 (by omega)) 3 v8 (by omega)) 4 v9 (by omega)), (((((((((((Below.refl s W4).setCell (p := ⟨s, 0, none⟩) (Nat.le_refl _) v0).setCell (p := ⟨s, 1, none⟩) (Nat.le_refl _) v1).setCell (p := ⟨s, 2, none⟩) (Nat.le_refl _) v2).setCell (p := ⟨s, 3, none⟩) (Nat.le_refl _) v3).setCell (p := ⟨s, 4, none⟩) (Nat.le_refl _) v4).setCell (p := ⟨s + 1, 0, none⟩) (by simp) v5).setCell (p := ⟨s + 1, 1, none⟩) (by simp) v6).setCell (p := ⟨s + 1, 2, none⟩) (by simp) v7).setCell (p := ⟨s + 1, 3, none⟩) (by simp) v8).setCell (p := ⟨s + 1, 4, none⟩) (by simp) v9), by simp [World.setCell]⟩
  · exact (own_far7 (own_far7 (own_far7 (own_far7 (own_far7 (((((oA.store 0 v0).store 1 v1).store 2 v2).store 3 v3).store 4 v4) 0 v5 (by omega)) 1 v6 (by omega)) 2 v7 (by omega)) 3 v8 (by omega)) 4 v9 (by omega))
  · exact ((((((own_far7 (own_far7 (own_far7 (own_far7 (own_far7 oB 0 v0 (by omega)) 1 v1 (by omega)) 2 v2 (by omega)) 3 v3 (by omega)) 4 v4 (by omega)).store 0 v5).store 1 v6).store 2 v7).store 3 v8).store 4 v9)
theorem results_two7 {fn : Func} {p q : Tmp} {t u : TypeId} (h : fn.results = #[.cell p t, .cell q u]) (tmps : Array Value) (P : Program) (w : World) :
    (results fn tmps).run P w = ((asAddr (tmps.getD p undef)).run P w).andThen fun a w₁ => ((loadVar t a).run P w₁).andThen fun v w₂ => ((asAddr (tmps.getD q undef)).run P w₂).andThen fun b w₃ => ((loadVar u b).run P w₃).andThen fun x w₄ => .ok (.tuple #[v, x]) w₄ := by
  simp only [results, h]
  simp [Sem.run_bind, Result.andThen]
set_option maxRecDepth 100000 in
set_option maxHeartbeats 8000000 in
theorem example7_any (w : World) :
    Calls Tryd.prog 32 #[] w fun e w' => ∃ cs cf, e = .returned (.tuple #[.agg cs.toArray, .agg cf.toArray]) ∧ ProgC 0 w'.heap.size w' cs exP ∧ FuncC 0 w'.heap.size w' cf exF ∧ Below w.heap.size w w' := by
  go_enter Tryd.func32, Tryd.ntmps32
  go_wp2_with fail
  obtain ⟨W4, hW4⟩ : ∃ W, ((((w.alloc (.cells #[.bool false, .slice none 0 0, .slice none 0 0, .slice none 0 0, .slice none 0 0] 27)).alloc (.cells #[str [], str [], .slice none 0 0, .slice none 0 0, .slice none 0 0] 30)).alloc (.cells #[str [111], str [80]] 40)).alloc (.cells #[str [120], str [105, 110, 116], str [121], str [105, 110, 116]] 40)).alloc (.cells #[str [102], str [80], .slice (some ⟨w.heap.size + 1 + 1, 0, none⟩) 1 1, .slice (some ⟨w.heap.size + 1 + 1 + 1, 0, none⟩) 2 2, .slice none 0 0] 30) = W := ⟨_, rfl⟩
  have oF : Own W4 (w.heap.size + 1 + 1 + 1 + 1) 30 [str [102], str [80], .slice (some ⟨w.heap.size + 1 + 1, 0, none⟩) 1 1, .slice (some ⟨w.heap.size + 1 + 1 + 1, 0, none⟩) 2 2, .slice none 0 0] := by rw [← hW4]; exact made7 (by simp) _ _
  have oV : Own W4 (w.heap.size + 1 + 1 + 1) 40 [str [120], str [105, 110, 116], str [121], str [105, 110, 116]] := by rw [← hW4]; exact (made7 (by simp) _ _).alloc _
  have oP : Own W4 (w.heap.size + 1 + 1) 40 [str [111], str [80]] := by rw [← hW4]; exact ((made7 (by simp) _ _).alloc _).alloc _
  have oA : Own W4 w.heap.size 27 [.bool false, .slice none 0 0, .slice none 0 0, .slice none 0 0, .slice none 0 0] := by rw [← hW4]; exact ((((made7 rfl _ _).alloc _).alloc _).alloc _).alloc _
  have oB : Own W4 (w.heap.size + 1) 30 [str [], str [], .slice none 0 0, .slice none 0 0, .slice none 0 0] := by rw [← hW4]; exact (((made7 (by simp) _ _).alloc _).alloc _).alloc _
  have hz : W4.heap.size = w.heap.size + 5 := by rw [← hW4]; simp
  have hb : Below w.heap.size w W4 := by rw [← hW4]; exact (((((Below.refl _ _).alloc (Nat.le_refl _) _).alloc (by simp) _).alloc (by simp; omega) _).alloc (by simp; omega) _).alloc (by simp; omega) _
  rw [hW4]
  obtain ⟨f0, f1, f2, f3, f4⟩ := five7 oF
  have flt := oF.lt
  obtain ⟨p0, p1, p2, p3, p4⟩ := five7 oA
  obtain ⟨g0, g1, g2, g3, g4⟩ := five7 oB
  have tp0 := oA.thaw 0
  have tp1 := oA.thaw 1
  have tp2 := oA.thaw 2
  have tp3 := oA.thaw 3
  have tp4 := oA.thaw 4
  have tg0 := oB.thaw 0
  have tg1 := oB.thaw 1
  have tg2 := oB.thaw 2
  have tg3 := oB.thaw 3
  have tg4 := oB.thaw 4
  have plt := oA.lt
  have glt := oB.lt
  have flt1 : w.heap.size + 1 + 1 + 1 + 1 < W4.heap.size + 1 := by omega
  have flt2 : w.heap.size + 1 + 1 + 1 + 1 < W4.heap.size + 1 + 1 := by omega
  have flt3 : w.heap.size + 1 + 1 + 1 + 1 < W4.heap.size + 1 + 1 + 1 := by omega
  have plt1 : w.heap.size < W4.heap.size + 1 := by omega
  have plt2 : w.heap.size < W4.heap.size + 1 + 1 := by omega
  have plt3 : w.heap.size < W4.heap.size + 1 + 1 + 1 := by omega
  have glt1 : w.heap.size + 1 < W4.heap.size + 1 := by omega
  have glt2 : w.heap.size + 1 < W4.heap.size + 1 + 1 := by omega
  have glt3 : w.heap.size + 1 < W4.heap.size + 1 + 1 + 1 := by omega
  have OA := Lib.hid oA
  have OB := Lib.hid oB
  have OF := Lib.hid oF
  have OV := Lib.hid oV
  have OP := Lib.hid oP
  have HB := Lib.hid hb
  have HZ := Lib.hid hz
  clear hW4 oF oV oP oA oB hb hz
  go_region
  · obtain ⟨WS, hWS⟩ : ∃ W, ((((((((((W4.setCell ⟨w.heap.size, 0, none⟩ (.bool false)).setCell ⟨w.heap.size, 1, none⟩ (.slice (some ⟨W4.heap.size + 1, 0, none⟩) 1 1)).setCell ⟨w.heap.size, 2, none⟩ (.slice none 0 0)).setCell ⟨w.heap.size, 3, none⟩ (.slice none 0 0)).setCell ⟨w.heap.size, 4, none⟩ (.slice (some ⟨W4.heap.size + 1 + 1, 0, none⟩) 1 1)).setCell ⟨w.heap.size + 1, 0, none⟩ (str [102])).setCell ⟨w.heap.size + 1, 1, none⟩ (str [80])).setCell ⟨w.heap.size + 1, 2, none⟩ (.slice (some ⟨w.heap.size + 1 + 1, 0, none⟩) 1 1)).setCell ⟨w.heap.size + 1, 3, none⟩ (.slice (some ⟨w.heap.size + 1 + 1 + 1, 0, none⟩) 2 2)).setCell ⟨w.heap.size + 1, 4, none⟩ (.slice none 0 0)) = W := ⟨_, rfl⟩
    obtain ⟨h1, h2, h3, h4, h5, h6⟩ := boxes7 OA.out OB.out OP.out OV.out hWS
    have HZS := Lib.hid h6
    rw [hWS]
    obtain ⟨W9, hW9⟩ : ∃ W, ((((WS.alloc (.cells #[str [97], str [105, 110, 116]] 40)).alloc (.cells #[str [80], .slice (some ⟨W4.heap.size, 0, none⟩) 1 1] 36)).alloc (.cells #[str [102], str [80], .slice (some ⟨w.heap.size + 1 + 1, 0, none⟩) 1 1, .slice (some ⟨w.heap.size + 1 + 1 + 1, 0, none⟩) 2 2, .slice none 0 0] 30))).drew = W := ⟨_, rfl⟩
    have oA := (show Own W9 w.heap.size 27 [.bool false, .slice (some ⟨W4.heap.size + 1, 0, none⟩) 1 1, .slice none 0 0, .slice none 0 0, .slice (some ⟨W4.heap.size + 1 + 1, 0, none⟩) 1 1] by rw [← hW9]; exact (((h1.alloc _).alloc _).alloc _).drew)
    have oB := (show Own W9 (w.heap.size + 1) 30 [str [102], str [80], .slice (some ⟨w.heap.size + 1 + 1, 0, none⟩) 1 1, .slice (some ⟨w.heap.size + 1 + 1 + 1, 0, none⟩) 2 2, .slice none 0 0] by rw [← hW9]; exact (((h2.alloc _).alloc _).alloc _).drew)
    have oP := (show Own W9 (w.heap.size + 1 + 1) 40 [str [111], str [80]] by rw [← hW9]; exact (((h3.alloc _).alloc _).alloc _).drew)
    have oV := (show Own W9 (w.heap.size + 1 + 1 + 1) 40 [str [120], str [105, 110, 116], str [121], str [105, 110, 116]] by rw [← hW9]; exact (((h4.alloc _).alloc _).alloc _).drew)
    have na := (show Own W9 (W4.heap.size) 40 [str [97], str [105, 110, 116]] by rw [← hW9]; exact (((made7 (by rw [HZS.out]) _ _).alloc _).alloc _).drew)
    have nc := (show Own W9 (W4.heap.size + 1) 36 [str [80], .slice (some ⟨W4.heap.size, 0, none⟩) 1 1] by rw [← hW9]; exact ((made7 (by simp [HZS.out]) _ _).alloc _).drew)
    have nf := (show Own W9 (W4.heap.size + 1 + 1) 30 [str [102], str [80], .slice (some ⟨w.heap.size + 1 + 1, 0, none⟩) 1 1, .slice (some ⟨w.heap.size + 1 + 1 + 1, 0, none⟩) 2 2, .slice none 0 0] by rw [← hW9]; exact (made7 (by simp [HZS.out]) _ _).drew)
    have hb9 : Below w.heap.size w W9 := by
      rw [← hW9]
      exact ((((HB.out.trans h5).alloc (HB.out.trans h5).size _).alloc (by simp; have := (HB.out.trans h5).size; omega) _).alloc (by simp; have := (HB.out.trans h5).size; omega) _).drew
    rw [hW9]
    obtain ⟨r0, r1, r2, r3, r4⟩ := five7 oA
    obtain ⟨s0, s1, s2, s3, s4⟩ := five7 oB
    have HFIN := Lib.hid (ex_fin oP oV na nc nf)
    have HB9 := Lib.hid hb9
    clear h1 h2 h3 h4 h5 h6 hWS hW9 oA oB oP oV na nc nf hb9 p0 p1 p2 p3 p4 g0 g1 g2 g3 g4 f0 f1 f2 f3 f4
    go_wp2_with fail
    refine bodyPost_ret (v := .tuple #[.agg #[.bool false, .slice (some ⟨W4.heap.size + 1, 0, none⟩) 1 1, .slice none 0 0, .slice none 0 0, .slice (some ⟨W4.heap.size + 1 + 1, 0, none⟩) 1 1], .agg #[str [102], str [80], .slice (some ⟨w.heap.size + 1 + 1, 0, none⟩) 1 1, .slice (some ⟨w.heap.size + 1 + 1 + 1, 0, none⟩) 2 2, .slice none 0 0]]) (by rw [results_two7 rfl]; go_simp) rfl ?_
    exact ⟨_, _, rfl, HFIN.out.1, HFIN.out.2, HB9.out⟩
  · obtain ⟨WS, hWS⟩ : ∃ W, ((((((((((W4.setCell ⟨w.heap.size, 0, none⟩ (.bool false)).setCell ⟨w.heap.size, 1, none⟩ (.slice (some ⟨W4.heap.size + 1 + 1, 0, none⟩) 1 1)).setCell ⟨w.heap.size, 2, none⟩ (.slice none 0 0)).setCell ⟨w.heap.size, 3, none⟩ (.slice none 0 0)).setCell ⟨w.heap.size, 4, none⟩ (.slice (some ⟨W4.heap.size + 1, 0, none⟩) 1 1)).setCell ⟨w.heap.size + 1, 0, none⟩ (str [102])).setCell ⟨w.heap.size + 1, 1, none⟩ (str [80])).setCell ⟨w.heap.size + 1, 2, none⟩ (.slice (some ⟨w.heap.size + 1 + 1, 0, none⟩) 1 1)).setCell ⟨w.heap.size + 1, 3, none⟩ (.slice (some ⟨w.heap.size + 1 + 1 + 1, 0, none⟩) 2 2)).setCell ⟨w.heap.size + 1, 4, none⟩ (.slice none 0 0)) = W := ⟨_, rfl⟩
    obtain ⟨h1, h2, h3, h4, h5, h6⟩ := boxes7 OA.out OB.out OP.out OV.out hWS
    have HZS := Lib.hid h6
    rw [hWS]
    obtain ⟨W9, hW9⟩ : ∃ W, ((((WS.alloc (.cells #[str [97], str [105, 110, 116]] 40)).alloc (.cells #[str [102], str [80], .slice (some ⟨w.heap.size + 1 + 1, 0, none⟩) 1 1, .slice (some ⟨w.heap.size + 1 + 1 + 1, 0, none⟩) 2 2, .slice none 0 0] 30)).alloc (.cells #[str [80], .slice (some ⟨W4.heap.size, 0, none⟩) 1 1] 36))).drew = W := ⟨_, rfl⟩
    have oA := (show Own W9 w.heap.size 27 [.bool false, .slice (some ⟨W4.heap.size + 1 + 1, 0, none⟩) 1 1, .slice none 0 0, .slice none 0 0, .slice (some ⟨W4.heap.size + 1, 0, none⟩) 1 1] by rw [← hW9]; exact (((h1.alloc _).alloc _).alloc _).drew)
    have oB := (show Own W9 (w.heap.size + 1) 30 [str [102], str [80], .slice (some ⟨w.heap.size + 1 + 1, 0, none⟩) 1 1, .slice (some ⟨w.heap.size + 1 + 1 + 1, 0, none⟩) 2 2, .slice none 0 0] by rw [← hW9]; exact (((h2.alloc _).alloc _).alloc _).drew)
    have oP := (show Own W9 (w.heap.size + 1 + 1) 40 [str [111], str [80]] by rw [← hW9]; exact (((h3.alloc _).alloc _).alloc _).drew)
    have oV := (show Own W9 (w.heap.size + 1 + 1 + 1) 40 [str [120], str [105, 110, 116], str [121], str [105, 110, 116]] by rw [← hW9]; exact (((h4.alloc _).alloc _).alloc _).drew)
    have na := (show Own W9 (W4.heap.size) 40 [str [97], str [105, 110, 116]] by rw [← hW9]; exact (((made7 (by rw [HZS.out]) _ _).alloc _).alloc _).drew)
    have nf := (show Own W9 (W4.heap.size + 1) 30 [str [102], str [80], .slice (some ⟨w.heap.size + 1 + 1, 0, none⟩) 1 1, .slice (some ⟨w.heap.size + 1 + 1 + 1, 0, none⟩) 2 2, .slice none 0 0] by rw [← hW9]; exact ((made7 (by simp [HZS.out]) _ _).alloc _).drew)
    have nc := (show Own W9 (W4.heap.size + 1 + 1) 36 [str [80], .slice (some ⟨W4.heap.size, 0, none⟩) 1 1] by rw [← hW9]; exact (made7 (by simp [HZS.out]) _ _).drew)
    have hb9 : Below w.heap.size w W9 := by
      rw [← hW9]
      exact ((((HB.out.trans h5).alloc (HB.out.trans h5).size _).alloc (by simp; have := (HB.out.trans h5).size; omega) _).alloc (by simp; have := (HB.out.trans h5).size; omega) _).drew
    rw [hW9]
    obtain ⟨r0, r1, r2, r3, r4⟩ := five7 oA
    obtain ⟨s0, s1, s2, s3, s4⟩ := five7 oB
    have HFIN := Lib.hid (ex_fin oP oV na nc nf)
    have HB9 := Lib.hid hb9
    clear h1 h2 h3 h4 h5 h6 hWS hW9 oA oB oP oV na nc nf hb9 p0 p1 p2 p3 p4 g0 g1 g2 g3 g4 f0 f1 f2 f3 f4
    go_wp2_with fail
    refine bodyPost_ret (v := .tuple #[.agg #[.bool false, .slice (some ⟨W4.heap.size + 1 + 1, 0, none⟩) 1 1, .slice none 0 0, .slice none 0 0, .slice (some ⟨W4.heap.size + 1, 0, none⟩) 1 1], .agg #[str [102], str [80], .slice (some ⟨w.heap.size + 1 + 1, 0, none⟩) 1 1, .slice (some ⟨w.heap.size + 1 + 1 + 1, 0, none⟩) 2 2, .slice none 0 0]]) (by rw [results_two7 rfl]; go_simp) rfl ?_
    exact ⟨_, _, rfl, HFIN.out.1, HFIN.out.2, HB9.out⟩
  · obtain ⟨WS, hWS⟩ : ∃ W, ((((((((((W4.setCell ⟨w.heap.size, 0, none⟩ (.bool false)).setCell ⟨w.heap.size, 1, none⟩ (.slice (some ⟨W4.heap.size + 1 + 1, 0, none⟩) 1 1)).setCell ⟨w.heap.size, 2, none⟩ (.slice none 0 0)).setCell ⟨w.heap.size, 3, none⟩ (.slice none 0 0)).setCell ⟨w.heap.size, 4, none⟩ (.slice (some ⟨W4.heap.size, 0, none⟩) 1 1)).setCell ⟨w.heap.size + 1, 0, none⟩ (str [102])).setCell ⟨w.heap.size + 1, 1, none⟩ (str [80])).setCell ⟨w.heap.size + 1, 2, none⟩ (.slice (some ⟨w.heap.size + 1 + 1, 0, none⟩) 1 1)).setCell ⟨w.heap.size + 1, 3, none⟩ (.slice (some ⟨w.heap.size + 1 + 1 + 1, 0, none⟩) 2 2)).setCell ⟨w.heap.size + 1, 4, none⟩ (.slice none 0 0)) = W := ⟨_, rfl⟩
    obtain ⟨h1, h2, h3, h4, h5, h6⟩ := boxes7 OA.out OB.out OP.out OV.out hWS
    have HZS := Lib.hid h6
    rw [hWS]
    obtain ⟨W9, hW9⟩ : ∃ W, ((((WS.alloc (.cells #[str [102], str [80], .slice (some ⟨w.heap.size + 1 + 1, 0, none⟩) 1 1, .slice (some ⟨w.heap.size + 1 + 1 + 1, 0, none⟩) 2 2, .slice none 0 0] 30)).alloc (.cells #[str [97], str [105, 110, 116]] 40)).alloc (.cells #[str [80], .slice (some ⟨W4.heap.size + 1, 0, none⟩) 1 1] 36))).drew = W := ⟨_, rfl⟩
    have oA := (show Own W9 w.heap.size 27 [.bool false, .slice (some ⟨W4.heap.size + 1 + 1, 0, none⟩) 1 1, .slice none 0 0, .slice none 0 0, .slice (some ⟨W4.heap.size, 0, none⟩) 1 1] by rw [← hW9]; exact (((h1.alloc _).alloc _).alloc _).drew)
    have oB := (show Own W9 (w.heap.size + 1) 30 [str [102], str [80], .slice (some ⟨w.heap.size + 1 + 1, 0, none⟩) 1 1, .slice (some ⟨w.heap.size + 1 + 1 + 1, 0, none⟩) 2 2, .slice none 0 0] by rw [← hW9]; exact (((h2.alloc _).alloc _).alloc _).drew)
    have oP := (show Own W9 (w.heap.size + 1 + 1) 40 [str [111], str [80]] by rw [← hW9]; exact (((h3.alloc _).alloc _).alloc _).drew)
    have oV := (show Own W9 (w.heap.size + 1 + 1 + 1) 40 [str [120], str [105, 110, 116], str [121], str [105, 110, 116]] by rw [← hW9]; exact (((h4.alloc _).alloc _).alloc _).drew)
    have nf := (show Own W9 (W4.heap.size) 30 [str [102], str [80], .slice (some ⟨w.heap.size + 1 + 1, 0, none⟩) 1 1, .slice (some ⟨w.heap.size + 1 + 1 + 1, 0, none⟩) 2 2, .slice none 0 0] by rw [← hW9]; exact (((made7 (by rw [HZS.out]) _ _).alloc _).alloc _).drew)
    have na := (show Own W9 (W4.heap.size + 1) 40 [str [97], str [105, 110, 116]] by rw [← hW9]; exact ((made7 (by simp [HZS.out]) _ _).alloc _).drew)
    have nc := (show Own W9 (W4.heap.size + 1 + 1) 36 [str [80], .slice (some ⟨W4.heap.size + 1, 0, none⟩) 1 1] by rw [← hW9]; exact (made7 (by simp [HZS.out]) _ _).drew)
    have hb9 : Below w.heap.size w W9 := by
      rw [← hW9]
      exact ((((HB.out.trans h5).alloc (HB.out.trans h5).size _).alloc (by simp; have := (HB.out.trans h5).size; omega) _).alloc (by simp; have := (HB.out.trans h5).size; omega) _).drew
    rw [hW9]
    obtain ⟨r0, r1, r2, r3, r4⟩ := five7 oA
    obtain ⟨s0, s1, s2, s3, s4⟩ := five7 oB
    have HFIN := Lib.hid (ex_fin oP oV na nc nf)
    have HB9 := Lib.hid hb9
    clear h1 h2 h3 h4 h5 h6 hWS hW9 oA oB oP oV na nc nf hb9 p0 p1 p2 p3 p4 g0 g1 g2 g3 g4 f0 f1 f2 f3 f4
    go_wp2_with fail
    refine bodyPost_ret (v := .tuple #[.agg #[.bool false, .slice (some ⟨W4.heap.size + 1 + 1, 0, none⟩) 1 1, .slice none 0 0, .slice none 0 0, .slice (some ⟨W4.heap.size, 0, none⟩) 1 1], .agg #[str [102], str [80], .slice (some ⟨w.heap.size + 1 + 1, 0, none⟩) 1 1, .slice (some ⟨w.heap.size + 1 + 1 + 1, 0, none⟩) 2 2, .slice none 0 0]]) (by rw [results_two7 rfl]; go_simp) rfl ?_
    exact ⟨_, _, rfl, HFIN.out.1, HFIN.out.2, HB9.out⟩
end Go.Proofs.YtikfncgdjnljiaaDoor.L07
