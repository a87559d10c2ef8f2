/-
  The statements of layer 8: what they share.
-/
import Derived.Test.YtdmjghhgmpnacaaShRight
import Derived.Test.YtdmjghhgmpnacaaShPhis
namespace Go.Proofs.Ytdmjghhgmpnacaa.L08
open Go.RowKit Api Mem Sh8

theorem results_cell8 {fn : Func} {p : Tmp} {ty : TypeId} (h : fn.results = #[.cell p ty]) (tmps : Array Value) (P : Program) (w : World) :
    (results fn tmps).run P w = ((asAddr (tmps.getD p undef)).run P w).andThen fun a w₁ => (loadVar ty a).run P w₁ := by
  simp only [results, h]
  simp [Sem.run_bind, Result.andThen]
/-- A row of one, just laid. -/
theorem row_one8 {α : Type} {hi size : Nat} {w : World} {g : Nat} {t : TypeId} {cs : List Value} {P : List Value → α → Prop} {x : α} (o : Own w g t cs) (hg : g < hi) (hs : cs.length = size) (hp : P cs x) : Row 0 hi w size P (.slice (some ⟨g, 0, none⟩) 1 1) [x] := by
  refine ⟨_, 1, 1, g, 0, rfl, rfl, ⟨by omega, by omega⟩, fun _ => ⟨rfl, Nat.zero_le _, hg⟩, fun i y hy => ?_⟩
  match i, hy with
  | 0, hy =>
    obtain rfl : x = y := by simpa using hy
    exact ⟨cs, hs, fun j u hj => by rw [show 0 + 0 * size + j = j by omega]; exact (o.cell j).trans hj, hp⟩
  | i + 1, hy => simp at hy
/-- .. of two. -/
theorem row_two8 {α : Type} {hi size : Nat} {w : World} {g : Nat} {t : TypeId} {cs ds : List Value} {P : List Value → α → Prop} {x y : α} (o : Own w g t (cs ++ ds)) (hg : g < hi) (hs : cs.length = size) (hs2 : ds.length = size) (hp : P cs x) (hp2 : P ds y) : Row 0 hi w size P (.slice (some ⟨g, 0, none⟩) 2 2) [x, y] := by
  refine ⟨_, 2, 2, g, 0, rfl, rfl, ⟨by omega, by omega⟩, fun _ => ⟨rfl, Nat.zero_le _, hg⟩, fun i z hz => ?_⟩
  match i, hz with
  | 0, hz =>
    obtain rfl : x = z := by simpa using hz
    refine ⟨cs, hs, fun j u hj => ?_, hp⟩
    rw [show 0 + 0 * size + j = j by omega, o.cell, List.getElem?_append_left (List.getElem?_eq_some_iff.1 hj).1]
    exact hj
  | 1, hz =>
    obtain rfl : y = z := by simpa using hz
    refine ⟨ds, hs2, fun j u hj => ?_, hp2⟩
    rw [show 0 + 1 * size + j = cs.length + j by omega, o.cell, List.getElem?_append_right (by omega), Nat.add_sub_cancel_left]
    exact hj
  | i + 2, hz => simp at hz
theorem row_zero8 {α : Type} {hi size : Nat} {w : World} {P : List Value → α → Prop} : Row 0 hi w size P (.slice none 0 0) ([] : List α) := ⟨none, 0, 0, 0, 0, rfl, rfl, by omega, by omega, fun i x h => by simp at h⟩
theorem made_as8 {w : World} {g : Nat} (hg : g = w.heap.size) (t : TypeId) (cs : List Value) : Own (w.alloc (.cells cs.toArray t)) g t cs := hg ▸ Own.made w t cs
/-- a block of a jump, and a function of such blocks. -/
abbrev jb (n : Wd) (d : List Wd) : Api.Block := ⟨n, [], [], ⟨1, ⟨0, [], 0⟩, d, 0⟩⟩
abbrev fnB (bl : List Api.Block) : Api.Func := ⟨[], [], [], [], bl⟩
abbrev jumpC (n : Wd) (v : Value) : List Value := [str n, .slice none 0 0, .slice none 0 0, i64 1, i64 0, str [], i64 0, v, i64 0]
set_option maxRecDepth 100000 in
set_option maxHeartbeats 8000000 in
theorem jump_any (w : World) (n : Wd) (A : Option Addr) (l c : Nat) :
    Calls Try.prog 16 #[str n, .slice A l c] w fun e w' => e = .returned (.agg (jumpC n (.slice A l c)).toArray) ∧ Below w.heap.size w w' := by
  go_enter Try.func16, Try.ntmps16
  go_wp2_with fail
  exact bodyPost_ret (v := .agg (jumpC n (.slice A l c)).toArray) (by rw [results_cell8 rfl]; go_simp) rfl ⟨rfl, (Below.refl _ _).alloc (Nat.le_refl _) _⟩
theorem jump_c {w : World} {hi : Nat} {n : Wd} {v : Value} {d : List Wd} (h : Texts 0 hi w v d) : BlockC 0 hi w (jumpC n v) (jb n d) := ⟨_, _, _, rfl, row_zero8, row_zero8, _, rfl, h⟩
theorem func_c {w : World} {hi : Nat} {v : Value} {bl : List Api.Block} (h : Blocks 0 hi w v bl) : FuncC 0 hi w [str [], str [], .slice none 0 0, .slice none 0 0, v] (fnB bl) := ⟨_, _, _, rfl, row_zero8, row_zero8, h⟩
def goodB : List Bl := [jb [98, 48] [[98, 49]], jb [98, 49] []]
theorem right_good : RightP [jb [98, 48] [[98, 49]], jb [98, 49] []] := by
  refine ⟨by simp, (by decide : [[98, 48], [98, 49]].Nodup (α := Wd)), fun b hb => ?_, fun b hb => ?_⟩
  · simp only [List.mem_cons, List.not_mem_nil, or_false] at hb
    rcases hb with rfl | rfl
    · exact ⟨by decide, fun x hx => by
        simp only [List.mem_singleton] at hx
        subst hx
        exact ⟨by simp [names], by simp [names]⟩⟩
    · exact ⟨by decide, fun x hx => by simp at hx⟩
  · simp only [List.mem_cons, List.not_mem_nil, or_false] at hb
    rcases hb with rfl | rfl
    · exact .head rfl
    · exact .step (b := jb [98, 48] [[98, 49]]) (by simp) (.head rfl) (by simp)
theorem not_round : ¬ RightP [jb [98, 48] [[98, 48]]] := fun h => by
  have := (h.2.2.1 _ (List.mem_singleton.2 rfl)).2 [98, 48] (by simp)
  exact this.2 (by simp [names])
theorem not_twice : ¬ RightP [jb [98, 48] [[98, 49], [98, 49]], jb [98, 49] []] := fun h => by
  have := (h.2.2.1 (jb [98, 48] [[98, 49], [98, 49]]) (by simp)).1
  simp at this
theorem not_none : ¬ RightP [] := fun h => h.1 rfl
abbrev phiB : List Bl := [jb [98, 48] [[98, 49]], ⟨[98, 49], [⟨[120], [⟨[98, 48], ⟨0, [], 0⟩⟩]⟩], [], ⟨0, ⟨0, [], 0⟩, [], 0⟩⟩]
theorem right_phi : RightP phiB := by
  refine ⟨by simp, (by decide : [[98, 48], [98, 49]].Nodup (α := Wd)), fun b hb => ?_, fun b hb => ?_⟩
  · simp only [List.mem_cons, List.not_mem_nil, or_false] at hb
    rcases hb with rfl | rfl
    · exact ⟨by decide, fun x hx => by
        simp only [List.mem_singleton] at hx
        subst hx
        exact ⟨by simp [names], by simp [names]⟩⟩
    · exact ⟨by decide, fun x hx => by simp at hx⟩
  · simp only [List.mem_cons, List.not_mem_nil, or_false] at hb
    rcases hb with rfl | rfl
    · exact .head rfl
    · exact .step (b := jb [98, 48] [[98, 49]]) (by simp) (.head rfl) (by simp)
theorem phis_phi : PhisP phiB := by
  refine ⟨fun b hb => ?_, fun b hb p hp => ?_⟩
  · simp at hb
    subst hb
    rfl
  · simp only [List.mem_cons, List.not_mem_nil, or_false] at hb
    rcases hb with rfl | rfl
    · simp at hp
    · simp at hp
      subst hp
      refine ⟨by simp [insN], fun y => ⟨fun hy => ?_, ?_⟩⟩
      · simp [insN] at hy
        subst hy
        exact ⟨jb [98, 48] [[98, 49]], by simp, rfl, by simp⟩
      · rintro ⟨b, hb, rfl, hx⟩
        simp only [List.mem_cons, List.not_mem_nil, or_false] at hb
        rcases hb with rfl | rfl
        · simp [insN]
        · simp at hx
theorem no9 {b : Bool} {p : Prop} (h : b = true ↔ p) (hn : ¬ p) : b = false := by
  cases b with
  | false => rfl
  | true => exact absurd (h.1 rfl) hn
set_option maxRecDepth 100000 in
set_option maxHeartbeats 16000000 in
theorem awake_any (w : World) : Calls Try.prog 8 #[] w fun e w' => e = .returned (.bool true) ∧ Below w.heap.size w w' := by
  go_enter Try.func8, Try.ntmps8
  go_wp2_with fail
  obtain ⟨W1, hW1⟩ : ∃ W, (w.alloc (.cells [str [98, 49]].toArray 9)) = W := ⟨_, rfl⟩
  have O1 := Lib.hid (show Own W1 (w.heap.size) 9 [str [98, 49]] by rw [← hW1]; exact (made_as8 (w := w) (by simp) 9 [str [98, 49]]))
  have BW := Lib.hid (show Below w.heap.size w W1 by rw [← hW1]; exact ((Below.refl w.heap.size w).alloc (by have := Nat.le_refl w.heap.size; simp; try omega) _))
  have zW1 : W1.heap.size = w.heap.size + 1 := by rw [← hW1]; simp
  rw [hW1]
  clear hW1
  refine (jump_any _ _ _ _ _).mono ?_
  rintro e w2 ⟨rfl, hb9⟩
  have O1 := Lib.hid (O1.out.below hb9 O1.out.lt)
  have BW := Lib.hid (BW.out.trans (hb9.mono BW.out.size))
  have yw2 := hb9.size
  clear hb9
  go_wp2_with fail
  refine (jump_any _ _ _ _ _).mono ?_
  rintro e w3 ⟨rfl, hb9⟩
  have O1 := Lib.hid (O1.out.below hb9 O1.out.lt)
  have BW := Lib.hid (BW.out.trans (hb9.mono BW.out.size))
  have yw3 := hb9.size
  clear hb9
  go_wp2_with fail
  obtain ⟨W4, hW4⟩ : ∃ W, (((w3.alloc (.cells [str [98, 48], .slice none 0 0, .slice none 0 0, i64 1, i64 0, str [], i64 0, .slice (some ⟨w.heap.size, 0, none⟩) 1 1, i64 0, str [98, 49], .slice none 0 0, .slice none 0 0, i64 1, i64 0, str [], i64 0, .slice none 0 0, i64 0].toArray 40)).alloc (.cells [str [], str [], .slice none 0 0, .slice none 0 0, .slice (some ⟨w3.heap.size, 0, none⟩) 2 2].toArray 25)).alloc (.cells [str [98, 48]].toArray 9)) = W := ⟨_, rfl⟩
  have OG := Lib.hid (show Own W4 (w3.heap.size) 40 [str [98, 48], .slice none 0 0, .slice none 0 0, i64 1, i64 0, str [], i64 0, .slice (some ⟨w.heap.size, 0, none⟩) 1 1, i64 0, str [98, 49], .slice none 0 0, .slice none 0 0, i64 1, i64 0, str [], i64 0, .slice none 0 0, i64 0] by rw [← hW4]; exact (((made_as8 (w := w3) (by simp) 40 [str [98, 48], .slice none 0 0, .slice none 0 0, i64 1, i64 0, str [], i64 0, .slice (some ⟨w.heap.size, 0, none⟩) 1 1, i64 0, str [98, 49], .slice none 0 0, .slice none 0 0, i64 1, i64 0, str [], i64 0, .slice none 0 0, i64 0]).alloc _).alloc _))
  have FG := Lib.hid (show Own W4 (w3.heap.size + 1) 25 [str [], str [], .slice none 0 0, .slice none 0 0, .slice (some ⟨w3.heap.size, 0, none⟩) 2 2] by rw [← hW4]; exact ((made_as8 (w := (w3.alloc (.cells [str [98, 48], .slice none 0 0, .slice none 0 0, i64 1, i64 0, str [], i64 0, .slice (some ⟨w.heap.size, 0, none⟩) 1 1, i64 0, str [98, 49], .slice none 0 0, .slice none 0 0, i64 1, i64 0, str [], i64 0, .slice none 0 0, i64 0].toArray 40))) (by simp) 25 [str [], str [], .slice none 0 0, .slice none 0 0, .slice (some ⟨w3.heap.size, 0, none⟩) 2 2]).alloc _))
  have O2 := Lib.hid (show Own W4 (w3.heap.size + 1 + 1) 9 [str [98, 48]] by rw [← hW4]; exact (made_as8 (w := ((w3.alloc (.cells [str [98, 48], .slice none 0 0, .slice none 0 0, i64 1, i64 0, str [], i64 0, .slice (some ⟨w.heap.size, 0, none⟩) 1 1, i64 0, str [98, 49], .slice none 0 0, .slice none 0 0, i64 1, i64 0, str [], i64 0, .slice none 0 0, i64 0].toArray 40)).alloc (.cells [str [], str [], .slice none 0 0, .slice none 0 0, .slice (some ⟨w3.heap.size, 0, none⟩) 2 2].toArray 25))) (by simp) 9 [str [98, 48]]))
  have O1 := Lib.hid (show Own W4 (w.heap.size) 9 [str [98, 49]] by rw [← hW4]; exact (((O1.out.alloc _).alloc _).alloc _))
  have BW := Lib.hid (show Below w.heap.size w W4 by rw [← hW4]; exact (((BW.out.alloc (by have := BW.out.size; simp; try omega) _).alloc (by have := BW.out.size; simp; try omega) _).alloc (by have := BW.out.size; simp; try omega) _))
  have zW4 : W4.heap.size = w3.heap.size + 3 := by rw [← hW4]; simp
  rw [hW4]
  clear hW4
  refine (jump_any _ _ _ _ _).mono ?_
  rintro e w5 ⟨rfl, hb9⟩
  have O1 := Lib.hid (O1.out.below hb9 O1.out.lt)
  have OG := Lib.hid (OG.out.below hb9 OG.out.lt)
  have FG := Lib.hid (FG.out.below hb9 FG.out.lt)
  have O2 := Lib.hid (O2.out.below hb9 O2.out.lt)
  have BW := Lib.hid (BW.out.trans (hb9.mono BW.out.size))
  have yw5 := hb9.size
  clear hb9
  go_wp2_with fail
  obtain ⟨W6, hW6⟩ : ∃ W, (((w5.alloc (.cells [str [98, 48], .slice none 0 0, .slice none 0 0, i64 1, i64 0, str [], i64 0, .slice (some ⟨w3.heap.size + 1 + 1, 0, none⟩) 1 1, i64 0].toArray 40)).alloc (.cells [str [], str [], .slice none 0 0, .slice none 0 0, .slice (some ⟨w5.heap.size, 0, none⟩) 1 1].toArray 25)).alloc (.cells [str [98, 49], str [98, 49]].toArray 9)) = W := ⟨_, rfl⟩
  have OR := Lib.hid (show Own W6 (w5.heap.size) 40 [str [98, 48], .slice none 0 0, .slice none 0 0, i64 1, i64 0, str [], i64 0, .slice (some ⟨w3.heap.size + 1 + 1, 0, none⟩) 1 1, i64 0] by rw [← hW6]; exact (((made_as8 (w := w5) (by simp) 40 [str [98, 48], .slice none 0 0, .slice none 0 0, i64 1, i64 0, str [], i64 0, .slice (some ⟨w3.heap.size + 1 + 1, 0, none⟩) 1 1, i64 0]).alloc _).alloc _))
  have FR := Lib.hid (show Own W6 (w5.heap.size + 1) 25 [str [], str [], .slice none 0 0, .slice none 0 0, .slice (some ⟨w5.heap.size, 0, none⟩) 1 1] by rw [← hW6]; exact ((made_as8 (w := (w5.alloc (.cells [str [98, 48], .slice none 0 0, .slice none 0 0, i64 1, i64 0, str [], i64 0, .slice (some ⟨w3.heap.size + 1 + 1, 0, none⟩) 1 1, i64 0].toArray 40))) (by simp) 25 [str [], str [], .slice none 0 0, .slice none 0 0, .slice (some ⟨w5.heap.size, 0, none⟩) 1 1]).alloc _))
  have O3 := Lib.hid (show Own W6 (w5.heap.size + 1 + 1) 9 [str [98, 49], str [98, 49]] by rw [← hW6]; exact (made_as8 (w := ((w5.alloc (.cells [str [98, 48], .slice none 0 0, .slice none 0 0, i64 1, i64 0, str [], i64 0, .slice (some ⟨w3.heap.size + 1 + 1, 0, none⟩) 1 1, i64 0].toArray 40)).alloc (.cells [str [], str [], .slice none 0 0, .slice none 0 0, .slice (some ⟨w5.heap.size, 0, none⟩) 1 1].toArray 25))) (by simp) 9 [str [98, 49], str [98, 49]]))
  have O1 := Lib.hid (show Own W6 (w.heap.size) 9 [str [98, 49]] by rw [← hW6]; exact (((O1.out.alloc _).alloc _).alloc _))
  have OG := Lib.hid (show Own W6 (w3.heap.size) 40 [str [98, 48], .slice none 0 0, .slice none 0 0, i64 1, i64 0, str [], i64 0, .slice (some ⟨w.heap.size, 0, none⟩) 1 1, i64 0, str [98, 49], .slice none 0 0, .slice none 0 0, i64 1, i64 0, str [], i64 0, .slice none 0 0, i64 0] by rw [← hW6]; exact (((OG.out.alloc _).alloc _).alloc _))
  have FG := Lib.hid (show Own W6 (w3.heap.size + 1) 25 [str [], str [], .slice none 0 0, .slice none 0 0, .slice (some ⟨w3.heap.size, 0, none⟩) 2 2] by rw [← hW6]; exact (((FG.out.alloc _).alloc _).alloc _))
  have O2 := Lib.hid (show Own W6 (w3.heap.size + 1 + 1) 9 [str [98, 48]] by rw [← hW6]; exact (((O2.out.alloc _).alloc _).alloc _))
  have BW := Lib.hid (show Below w.heap.size w W6 by rw [← hW6]; exact (((BW.out.alloc (by have := BW.out.size; simp; try omega) _).alloc (by have := BW.out.size; simp; try omega) _).alloc (by have := BW.out.size; simp; try omega) _))
  have zW6 : W6.heap.size = w5.heap.size + 3 := by rw [← hW6]; simp
  rw [hW6]
  clear hW6
  refine (jump_any _ _ _ _ _).mono ?_
  rintro e w7 ⟨rfl, hb9⟩
  have O1 := Lib.hid (O1.out.below hb9 O1.out.lt)
  have OG := Lib.hid (OG.out.below hb9 OG.out.lt)
  have FG := Lib.hid (FG.out.below hb9 FG.out.lt)
  have O2 := Lib.hid (O2.out.below hb9 O2.out.lt)
  have OR := Lib.hid (OR.out.below hb9 OR.out.lt)
  have FR := Lib.hid (FR.out.below hb9 FR.out.lt)
  have O3 := Lib.hid (O3.out.below hb9 O3.out.lt)
  have BW := Lib.hid (BW.out.trans (hb9.mono BW.out.size))
  have yw7 := hb9.size
  clear hb9
  go_wp2_with fail
  refine (jump_any _ _ _ _ _).mono ?_
  rintro e w8 ⟨rfl, hb9⟩
  have O1 := Lib.hid (O1.out.below hb9 O1.out.lt)
  have OG := Lib.hid (OG.out.below hb9 OG.out.lt)
  have FG := Lib.hid (FG.out.below hb9 FG.out.lt)
  have O2 := Lib.hid (O2.out.below hb9 O2.out.lt)
  have OR := Lib.hid (OR.out.below hb9 OR.out.lt)
  have FR := Lib.hid (FR.out.below hb9 FR.out.lt)
  have O3 := Lib.hid (O3.out.below hb9 O3.out.lt)
  have BW := Lib.hid (BW.out.trans (hb9.mono BW.out.size))
  have yw8 := hb9.size
  clear hb9
  go_wp2_with fail
  obtain ⟨W9, hW9⟩ : ∃ W, (((w8.alloc (.cells [str [98, 48], .slice none 0 0, .slice none 0 0, i64 1, i64 0, str [], i64 0, .slice (some ⟨w5.heap.size + 1 + 1, 0, none⟩) 2 2, i64 0, str [98, 49], .slice none 0 0, .slice none 0 0, i64 1, i64 0, str [], i64 0, .slice none 0 0, i64 0].toArray 40)).alloc (.cells [str [], str [], .slice none 0 0, .slice none 0 0, .slice (some ⟨w8.heap.size, 0, none⟩) 2 2].toArray 25)).alloc (.cells [str [98, 49]].toArray 9)) = W := ⟨_, rfl⟩
  have OT := Lib.hid (show Own W9 (w8.heap.size) 40 [str [98, 48], .slice none 0 0, .slice none 0 0, i64 1, i64 0, str [], i64 0, .slice (some ⟨w5.heap.size + 1 + 1, 0, none⟩) 2 2, i64 0, str [98, 49], .slice none 0 0, .slice none 0 0, i64 1, i64 0, str [], i64 0, .slice none 0 0, i64 0] by rw [← hW9]; exact (((made_as8 (w := w8) (by simp) 40 [str [98, 48], .slice none 0 0, .slice none 0 0, i64 1, i64 0, str [], i64 0, .slice (some ⟨w5.heap.size + 1 + 1, 0, none⟩) 2 2, i64 0, str [98, 49], .slice none 0 0, .slice none 0 0, i64 1, i64 0, str [], i64 0, .slice none 0 0, i64 0]).alloc _).alloc _))
  have FT := Lib.hid (show Own W9 (w8.heap.size + 1) 25 [str [], str [], .slice none 0 0, .slice none 0 0, .slice (some ⟨w8.heap.size, 0, none⟩) 2 2] by rw [← hW9]; exact ((made_as8 (w := (w8.alloc (.cells [str [98, 48], .slice none 0 0, .slice none 0 0, i64 1, i64 0, str [], i64 0, .slice (some ⟨w5.heap.size + 1 + 1, 0, none⟩) 2 2, i64 0, str [98, 49], .slice none 0 0, .slice none 0 0, i64 1, i64 0, str [], i64 0, .slice none 0 0, i64 0].toArray 40))) (by simp) 25 [str [], str [], .slice none 0 0, .slice none 0 0, .slice (some ⟨w8.heap.size, 0, none⟩) 2 2]).alloc _))
  have O4 := Lib.hid (show Own W9 (w8.heap.size + 1 + 1) 9 [str [98, 49]] by rw [← hW9]; exact (made_as8 (w := ((w8.alloc (.cells [str [98, 48], .slice none 0 0, .slice none 0 0, i64 1, i64 0, str [], i64 0, .slice (some ⟨w5.heap.size + 1 + 1, 0, none⟩) 2 2, i64 0, str [98, 49], .slice none 0 0, .slice none 0 0, i64 1, i64 0, str [], i64 0, .slice none 0 0, i64 0].toArray 40)).alloc (.cells [str [], str [], .slice none 0 0, .slice none 0 0, .slice (some ⟨w8.heap.size, 0, none⟩) 2 2].toArray 25))) (by simp) 9 [str [98, 49]]))
  have O1 := Lib.hid (show Own W9 (w.heap.size) 9 [str [98, 49]] by rw [← hW9]; exact (((O1.out.alloc _).alloc _).alloc _))
  have OG := Lib.hid (show Own W9 (w3.heap.size) 40 [str [98, 48], .slice none 0 0, .slice none 0 0, i64 1, i64 0, str [], i64 0, .slice (some ⟨w.heap.size, 0, none⟩) 1 1, i64 0, str [98, 49], .slice none 0 0, .slice none 0 0, i64 1, i64 0, str [], i64 0, .slice none 0 0, i64 0] by rw [← hW9]; exact (((OG.out.alloc _).alloc _).alloc _))
  have FG := Lib.hid (show Own W9 (w3.heap.size + 1) 25 [str [], str [], .slice none 0 0, .slice none 0 0, .slice (some ⟨w3.heap.size, 0, none⟩) 2 2] by rw [← hW9]; exact (((FG.out.alloc _).alloc _).alloc _))
  have O2 := Lib.hid (show Own W9 (w3.heap.size + 1 + 1) 9 [str [98, 48]] by rw [← hW9]; exact (((O2.out.alloc _).alloc _).alloc _))
  have OR := Lib.hid (show Own W9 (w5.heap.size) 40 [str [98, 48], .slice none 0 0, .slice none 0 0, i64 1, i64 0, str [], i64 0, .slice (some ⟨w3.heap.size + 1 + 1, 0, none⟩) 1 1, i64 0] by rw [← hW9]; exact (((OR.out.alloc _).alloc _).alloc _))
  have FR := Lib.hid (show Own W9 (w5.heap.size + 1) 25 [str [], str [], .slice none 0 0, .slice none 0 0, .slice (some ⟨w5.heap.size, 0, none⟩) 1 1] by rw [← hW9]; exact (((FR.out.alloc _).alloc _).alloc _))
  have O3 := Lib.hid (show Own W9 (w5.heap.size + 1 + 1) 9 [str [98, 49], str [98, 49]] by rw [← hW9]; exact (((O3.out.alloc _).alloc _).alloc _))
  have BW := Lib.hid (show Below w.heap.size w W9 by rw [← hW9]; exact (((BW.out.alloc (by have := BW.out.size; simp; try omega) _).alloc (by have := BW.out.size; simp; try omega) _).alloc (by have := BW.out.size; simp; try omega) _))
  have zW9 : W9.heap.size = w8.heap.size + 3 := by rw [← hW9]; simp
  rw [hW9]
  clear hW9
  refine (jump_any _ _ _ _ _).mono ?_
  rintro e w10 ⟨rfl, hb9⟩
  have O1 := Lib.hid (O1.out.below hb9 O1.out.lt)
  have OG := Lib.hid (OG.out.below hb9 OG.out.lt)
  have FG := Lib.hid (FG.out.below hb9 FG.out.lt)
  have O2 := Lib.hid (O2.out.below hb9 O2.out.lt)
  have OR := Lib.hid (OR.out.below hb9 OR.out.lt)
  have FR := Lib.hid (FR.out.below hb9 FR.out.lt)
  have O3 := Lib.hid (O3.out.below hb9 O3.out.lt)
  have OT := Lib.hid (OT.out.below hb9 OT.out.lt)
  have FT := Lib.hid (FT.out.below hb9 FT.out.lt)
  have O4 := Lib.hid (O4.out.below hb9 O4.out.lt)
  have BW := Lib.hid (BW.out.trans (hb9.mono BW.out.size))
  have yw10 := hb9.size
  clear hb9
  have c0 := FG.out.cell 0
  have c1 := FG.out.cell 1
  have c2 := FG.out.cell 2
  have c3 := FG.out.cell 3
  have c4 := FG.out.cell 4
  simp only [List.getElem?_cons_succ, List.getElem?_cons_zero] at c0 c1 c2 c3 c4
  have lt0 : w3.heap.size + 1 < w10.heap.size := by have := FG.out.lt; omega
  have lt1 : w3.heap.size + 1 < w10.heap.size + 1 := by have := FG.out.lt; omega
  have lt2 : w3.heap.size + 1 < w10.heap.size + 1 + 1 := by have := FG.out.lt; omega
  have lt3 : w3.heap.size + 1 < w10.heap.size + 1 + 1 + 1 := by have := FG.out.lt; omega
  go_wp2_with fail
  clear c0 c1 c2 c3 c4 lt0 lt1 lt2 lt3
  obtain ⟨W11, hW11⟩ : ∃ W, ((((w10.alloc (.cells [str [98, 48], i64 0, str [], i64 0].toArray 48)).alloc (.cells [str [120], .slice (some ⟨w10.heap.size, 0, none⟩) 1 1].toArray 51)).alloc (.cells [str [98, 48], .slice none 0 0, .slice none 0 0, i64 1, i64 0, str [], i64 0, .slice (some ⟨w8.heap.size + 1 + 1, 0, none⟩) 1 1, i64 0, str [98, 49], .slice (some ⟨w10.heap.size + 1, 0, none⟩) 1 1, .slice none 0 0, i64 0, i64 0, str [], i64 0, .slice none 0 0, i64 0].toArray 40)).alloc (.cells [str [], str [], .slice none 0 0, .slice none 0 0, .slice (some ⟨w10.heap.size + 1 + 1, 0, none⟩) 2 2].toArray 25)) = W := ⟨_, rfl⟩
  have OI := Lib.hid (show Own W11 (w10.heap.size) 48 [str [98, 48], i64 0, str [], i64 0] by rw [← hW11]; exact ((((made_as8 (w := w10) (by simp) 48 [str [98, 48], i64 0, str [], i64 0]).alloc _).alloc _).alloc _))
  have OP := Lib.hid (show Own W11 (w10.heap.size + 1) 51 [str [120], .slice (some ⟨w10.heap.size, 0, none⟩) 1 1] by rw [← hW11]; exact (((made_as8 (w := (w10.alloc (.cells [str [98, 48], i64 0, str [], i64 0].toArray 48))) (by simp) 51 [str [120], .slice (some ⟨w10.heap.size, 0, none⟩) 1 1]).alloc _).alloc _))
  have OQ := Lib.hid (show Own W11 (w10.heap.size + 1 + 1) 40 [str [98, 48], .slice none 0 0, .slice none 0 0, i64 1, i64 0, str [], i64 0, .slice (some ⟨w8.heap.size + 1 + 1, 0, none⟩) 1 1, i64 0, str [98, 49], .slice (some ⟨w10.heap.size + 1, 0, none⟩) 1 1, .slice none 0 0, i64 0, i64 0, str [], i64 0, .slice none 0 0, i64 0] by rw [← hW11]; exact ((made_as8 (w := ((w10.alloc (.cells [str [98, 48], i64 0, str [], i64 0].toArray 48)).alloc (.cells [str [120], .slice (some ⟨w10.heap.size, 0, none⟩) 1 1].toArray 51))) (by simp) 40 [str [98, 48], .slice none 0 0, .slice none 0 0, i64 1, i64 0, str [], i64 0, .slice (some ⟨w8.heap.size + 1 + 1, 0, none⟩) 1 1, i64 0, str [98, 49], .slice (some ⟨w10.heap.size + 1, 0, none⟩) 1 1, .slice none 0 0, i64 0, i64 0, str [], i64 0, .slice none 0 0, i64 0]).alloc _))
  have FQ := Lib.hid (show Own W11 (w10.heap.size + 1 + 1 + 1) 25 [str [], str [], .slice none 0 0, .slice none 0 0, .slice (some ⟨w10.heap.size + 1 + 1, 0, none⟩) 2 2] by rw [← hW11]; exact (made_as8 (w := (((w10.alloc (.cells [str [98, 48], i64 0, str [], i64 0].toArray 48)).alloc (.cells [str [120], .slice (some ⟨w10.heap.size, 0, none⟩) 1 1].toArray 51)).alloc (.cells [str [98, 48], .slice none 0 0, .slice none 0 0, i64 1, i64 0, str [], i64 0, .slice (some ⟨w8.heap.size + 1 + 1, 0, none⟩) 1 1, i64 0, str [98, 49], .slice (some ⟨w10.heap.size + 1, 0, none⟩) 1 1, .slice none 0 0, i64 0, i64 0, str [], i64 0, .slice none 0 0, i64 0].toArray 40))) (by simp) 25 [str [], str [], .slice none 0 0, .slice none 0 0, .slice (some ⟨w10.heap.size + 1 + 1, 0, none⟩) 2 2]))
  have O1 := Lib.hid (show Own W11 (w.heap.size) 9 [str [98, 49]] by rw [← hW11]; exact ((((O1.out.alloc _).alloc _).alloc _).alloc _))
  have OG := Lib.hid (show Own W11 (w3.heap.size) 40 [str [98, 48], .slice none 0 0, .slice none 0 0, i64 1, i64 0, str [], i64 0, .slice (some ⟨w.heap.size, 0, none⟩) 1 1, i64 0, str [98, 49], .slice none 0 0, .slice none 0 0, i64 1, i64 0, str [], i64 0, .slice none 0 0, i64 0] by rw [← hW11]; exact ((((OG.out.alloc _).alloc _).alloc _).alloc _))
  have FG := Lib.hid (show Own W11 (w3.heap.size + 1) 25 [str [], str [], .slice none 0 0, .slice none 0 0, .slice (some ⟨w3.heap.size, 0, none⟩) 2 2] by rw [← hW11]; exact ((((FG.out.alloc _).alloc _).alloc _).alloc _))
  have O2 := Lib.hid (show Own W11 (w3.heap.size + 1 + 1) 9 [str [98, 48]] by rw [← hW11]; exact ((((O2.out.alloc _).alloc _).alloc _).alloc _))
  have OR := Lib.hid (show Own W11 (w5.heap.size) 40 [str [98, 48], .slice none 0 0, .slice none 0 0, i64 1, i64 0, str [], i64 0, .slice (some ⟨w3.heap.size + 1 + 1, 0, none⟩) 1 1, i64 0] by rw [← hW11]; exact ((((OR.out.alloc _).alloc _).alloc _).alloc _))
  have FR := Lib.hid (show Own W11 (w5.heap.size + 1) 25 [str [], str [], .slice none 0 0, .slice none 0 0, .slice (some ⟨w5.heap.size, 0, none⟩) 1 1] by rw [← hW11]; exact ((((FR.out.alloc _).alloc _).alloc _).alloc _))
  have O3 := Lib.hid (show Own W11 (w5.heap.size + 1 + 1) 9 [str [98, 49], str [98, 49]] by rw [← hW11]; exact ((((O3.out.alloc _).alloc _).alloc _).alloc _))
  have OT := Lib.hid (show Own W11 (w8.heap.size) 40 [str [98, 48], .slice none 0 0, .slice none 0 0, i64 1, i64 0, str [], i64 0, .slice (some ⟨w5.heap.size + 1 + 1, 0, none⟩) 2 2, i64 0, str [98, 49], .slice none 0 0, .slice none 0 0, i64 1, i64 0, str [], i64 0, .slice none 0 0, i64 0] by rw [← hW11]; exact ((((OT.out.alloc _).alloc _).alloc _).alloc _))
  have FT := Lib.hid (show Own W11 (w8.heap.size + 1) 25 [str [], str [], .slice none 0 0, .slice none 0 0, .slice (some ⟨w8.heap.size, 0, none⟩) 2 2] by rw [← hW11]; exact ((((FT.out.alloc _).alloc _).alloc _).alloc _))
  have O4 := Lib.hid (show Own W11 (w8.heap.size + 1 + 1) 9 [str [98, 49]] by rw [← hW11]; exact ((((O4.out.alloc _).alloc _).alloc _).alloc _))
  have BW := Lib.hid (show Below w.heap.size w W11 by rw [← hW11]; exact ((((BW.out.alloc (by have := BW.out.size; simp; try omega) _).alloc (by have := BW.out.size; simp; try omega) _).alloc (by have := BW.out.size; simp; try omega) _).alloc (by have := BW.out.size; simp; try omega) _))
  have zW11 : W11.heap.size = w10.heap.size + 4 := by rw [← hW11]; simp
  rw [hW11]
  clear hW11
  refine (place_any 0 W11.heap.size W11 _ _ (func_c (row_two8 OG.out OG.out.lt rfl rfl (jump_c (row_one8 O1.out O1.out.lt rfl rfl)) (jump_c row_zero8))) (Nat.le_refl _) [98, 49]).mono ?_
  rintro e w12 ⟨rfl, hb9⟩
  have O1 := Lib.hid (O1.out.below hb9 O1.out.lt)
  have OG := Lib.hid (OG.out.below hb9 OG.out.lt)
  have FG := Lib.hid (FG.out.below hb9 FG.out.lt)
  have O2 := Lib.hid (O2.out.below hb9 O2.out.lt)
  have OR := Lib.hid (OR.out.below hb9 OR.out.lt)
  have FR := Lib.hid (FR.out.below hb9 FR.out.lt)
  have O3 := Lib.hid (O3.out.below hb9 O3.out.lt)
  have OT := Lib.hid (OT.out.below hb9 OT.out.lt)
  have FT := Lib.hid (FT.out.below hb9 FT.out.lt)
  have O4 := Lib.hid (O4.out.below hb9 O4.out.lt)
  have OI := Lib.hid (OI.out.below hb9 OI.out.lt)
  have OP := Lib.hid (OP.out.below hb9 OP.out.lt)
  have OQ := Lib.hid (OQ.out.below hb9 OQ.out.lt)
  have FQ := Lib.hid (FQ.out.below hb9 FQ.out.lt)
  have BW := Lib.hid (BW.out.trans (hb9.mono BW.out.size))
  have yw12 := hb9.size
  clear hb9
  have c0 := FG.out.cell 0
  have c1 := FG.out.cell 1
  have c2 := FG.out.cell 2
  have c3 := FG.out.cell 3
  have c4 := FG.out.cell 4
  simp only [List.getElem?_cons_succ, List.getElem?_cons_zero] at c0 c1 c2 c3 c4
  go_wp2_with fail
  clear c0 c1 c2 c3 c4
  refine (right_any 0 w12.heap.size w12 _ _ (func_c (row_two8 OG.out OG.out.lt rfl rfl (jump_c (row_one8 O1.out O1.out.lt rfl rfl)) (jump_c row_zero8))) (Nat.le_refl _) (by simp) (by intro b hb; simp at hb; rcases hb with rfl | rfl <;> simp) (by intro b hb x hx; simp at hb; rcases hb with rfl | rfl <;> simp at hx <;> (try rcases hx with rfl | rfl) <;> simp)).mono ?_
  rintro e w13 ⟨b9, rfl, hr9, hb9⟩
  obtain rfl : b9 = true := hr9.2 right_good
  clear hr9
  have O1 := Lib.hid (O1.out.below hb9 O1.out.lt)
  have OG := Lib.hid (OG.out.below hb9 OG.out.lt)
  have FG := Lib.hid (FG.out.below hb9 FG.out.lt)
  have O2 := Lib.hid (O2.out.below hb9 O2.out.lt)
  have OR := Lib.hid (OR.out.below hb9 OR.out.lt)
  have FR := Lib.hid (FR.out.below hb9 FR.out.lt)
  have O3 := Lib.hid (O3.out.below hb9 O3.out.lt)
  have OT := Lib.hid (OT.out.below hb9 OT.out.lt)
  have FT := Lib.hid (FT.out.below hb9 FT.out.lt)
  have O4 := Lib.hid (O4.out.below hb9 O4.out.lt)
  have OI := Lib.hid (OI.out.below hb9 OI.out.lt)
  have OP := Lib.hid (OP.out.below hb9 OP.out.lt)
  have OQ := Lib.hid (OQ.out.below hb9 OQ.out.lt)
  have FQ := Lib.hid (FQ.out.below hb9 FQ.out.lt)
  have BW := Lib.hid (BW.out.trans (hb9.mono BW.out.size))
  have yw13 := hb9.size
  clear hb9
  have c0 := FR.out.cell 0
  have c1 := FR.out.cell 1
  have c2 := FR.out.cell 2
  have c3 := FR.out.cell 3
  have c4 := FR.out.cell 4
  simp only [List.getElem?_cons_succ, List.getElem?_cons_zero] at c0 c1 c2 c3 c4
  go_wp2_with fail
  clear c0 c1 c2 c3 c4
  refine (right_any 0 w13.heap.size w13 _ _ (func_c (row_one8 OR.out OR.out.lt rfl (jump_c (row_one8 O2.out O2.out.lt rfl rfl)))) (Nat.le_refl _) (by simp) (by intro b hb; simp at hb; rcases hb with rfl <;> simp) (by intro b hb x hx; simp at hb; rcases hb with rfl <;> simp at hx <;> (try rcases hx with rfl | rfl) <;> simp)).mono ?_
  rintro e w14 ⟨b9, rfl, hr9, hb9⟩
  obtain rfl : b9 = false := no9 hr9 not_round
  clear hr9
  have O1 := Lib.hid (O1.out.below hb9 O1.out.lt)
  have OG := Lib.hid (OG.out.below hb9 OG.out.lt)
  have FG := Lib.hid (FG.out.below hb9 FG.out.lt)
  have O2 := Lib.hid (O2.out.below hb9 O2.out.lt)
  have OR := Lib.hid (OR.out.below hb9 OR.out.lt)
  have FR := Lib.hid (FR.out.below hb9 FR.out.lt)
  have O3 := Lib.hid (O3.out.below hb9 O3.out.lt)
  have OT := Lib.hid (OT.out.below hb9 OT.out.lt)
  have FT := Lib.hid (FT.out.below hb9 FT.out.lt)
  have O4 := Lib.hid (O4.out.below hb9 O4.out.lt)
  have OI := Lib.hid (OI.out.below hb9 OI.out.lt)
  have OP := Lib.hid (OP.out.below hb9 OP.out.lt)
  have OQ := Lib.hid (OQ.out.below hb9 OQ.out.lt)
  have FQ := Lib.hid (FQ.out.below hb9 FQ.out.lt)
  have BW := Lib.hid (BW.out.trans (hb9.mono BW.out.size))
  have yw14 := hb9.size
  clear hb9
  have c0 := FT.out.cell 0
  have c1 := FT.out.cell 1
  have c2 := FT.out.cell 2
  have c3 := FT.out.cell 3
  have c4 := FT.out.cell 4
  simp only [List.getElem?_cons_succ, List.getElem?_cons_zero] at c0 c1 c2 c3 c4
  go_wp2_with fail
  clear c0 c1 c2 c3 c4
  refine (right_any 0 w14.heap.size w14 _ _ (func_c (row_two8 OT.out OT.out.lt rfl rfl (jump_c (row_two8 (cs := [str [98, 49]]) (ds := [str [98, 49]]) O3.out O3.out.lt rfl rfl rfl rfl)) (jump_c row_zero8))) (Nat.le_refl _) (by simp) (by intro b hb; simp at hb; rcases hb with rfl | rfl <;> simp) (by intro b hb x hx; simp at hb; rcases hb with rfl | rfl <;> simp at hx <;> (try rcases hx with rfl | rfl) <;> simp)).mono ?_
  rintro e w15 ⟨b9, rfl, hr9, hb9⟩
  obtain rfl : b9 = false := no9 hr9 not_twice
  clear hr9
  have O1 := Lib.hid (O1.out.below hb9 O1.out.lt)
  have OG := Lib.hid (OG.out.below hb9 OG.out.lt)
  have FG := Lib.hid (FG.out.below hb9 FG.out.lt)
  have O2 := Lib.hid (O2.out.below hb9 O2.out.lt)
  have OR := Lib.hid (OR.out.below hb9 OR.out.lt)
  have FR := Lib.hid (FR.out.below hb9 FR.out.lt)
  have O3 := Lib.hid (O3.out.below hb9 O3.out.lt)
  have OT := Lib.hid (OT.out.below hb9 OT.out.lt)
  have FT := Lib.hid (FT.out.below hb9 FT.out.lt)
  have O4 := Lib.hid (O4.out.below hb9 O4.out.lt)
  have OI := Lib.hid (OI.out.below hb9 OI.out.lt)
  have OP := Lib.hid (OP.out.below hb9 OP.out.lt)
  have OQ := Lib.hid (OQ.out.below hb9 OQ.out.lt)
  have FQ := Lib.hid (FQ.out.below hb9 FQ.out.lt)
  have BW := Lib.hid (BW.out.trans (hb9.mono BW.out.size))
  have yw15 := hb9.size
  clear hb9
  go_wp2_with fail
  refine (right_any 0 w15.heap.size w15 _ _ (func_c row_zero8) (Nat.le_refl _) (by simp) (by intro b hb; cases hb) (by intro b hb; cases hb)).mono ?_
  rintro e w16 ⟨b9, rfl, hr9, hb9⟩
  obtain rfl : b9 = false := no9 hr9 not_none
  clear hr9
  have O1 := Lib.hid (O1.out.below hb9 O1.out.lt)
  have OG := Lib.hid (OG.out.below hb9 OG.out.lt)
  have FG := Lib.hid (FG.out.below hb9 FG.out.lt)
  have O2 := Lib.hid (O2.out.below hb9 O2.out.lt)
  have OR := Lib.hid (OR.out.below hb9 OR.out.lt)
  have FR := Lib.hid (FR.out.below hb9 FR.out.lt)
  have O3 := Lib.hid (O3.out.below hb9 O3.out.lt)
  have OT := Lib.hid (OT.out.below hb9 OT.out.lt)
  have FT := Lib.hid (FT.out.below hb9 FT.out.lt)
  have O4 := Lib.hid (O4.out.below hb9 O4.out.lt)
  have OI := Lib.hid (OI.out.below hb9 OI.out.lt)
  have OP := Lib.hid (OP.out.below hb9 OP.out.lt)
  have OQ := Lib.hid (OQ.out.below hb9 OQ.out.lt)
  have FQ := Lib.hid (FQ.out.below hb9 FQ.out.lt)
  have BW := Lib.hid (BW.out.trans (hb9.mono BW.out.size))
  have yw16 := hb9.size
  clear hb9
  have c0 := FQ.out.cell 0
  have c1 := FQ.out.cell 1
  have c2 := FQ.out.cell 2
  have c3 := FQ.out.cell 3
  have c4 := FQ.out.cell 4
  simp only [List.getElem?_cons_succ, List.getElem?_cons_zero] at c0 c1 c2 c3 c4
  go_wp2_with fail
  clear c0 c1 c2 c3 c4
  refine (phis_any 0 w16.heap.size w16 _ _ (func_c (bl := phiB) (row_two8 OQ.out OQ.out.lt rfl rfl (jump_c (row_one8 O4.out O4.out.lt rfl rfl)) ⟨_, _, _, rfl, row_one8 OP.out OP.out.lt rfl ⟨_, rfl, row_one8 OI.out OI.out.lt rfl rfl⟩, row_zero8, _, rfl, row_zero8⟩)) (Nat.le_refl _) (by simp) (by intro b hb; simp at hb; rcases hb with rfl | rfl <;> simp) (by intro b hb x hx; simp at hb; rcases hb with rfl | rfl <;> simp at hx <;> (try rcases hx with rfl | rfl) <;> simp) (by intro b hb p hp; simp at hb; rcases hb with rfl | rfl <;> simp at hp; subst hp; exact ⟨by simp, by intro b hb; simp at hb; subst hb; simp⟩) right_phi).mono ?_
  rintro e w17 ⟨b9, rfl, hr9, hb9⟩
  obtain rfl : b9 = true := hr9.2 phis_phi
  clear hr9
  have O1 := Lib.hid (O1.out.below hb9 O1.out.lt)
  have OG := Lib.hid (OG.out.below hb9 OG.out.lt)
  have FG := Lib.hid (FG.out.below hb9 FG.out.lt)
  have O2 := Lib.hid (O2.out.below hb9 O2.out.lt)
  have OR := Lib.hid (OR.out.below hb9 OR.out.lt)
  have FR := Lib.hid (FR.out.below hb9 FR.out.lt)
  have O3 := Lib.hid (O3.out.below hb9 O3.out.lt)
  have OT := Lib.hid (OT.out.below hb9 OT.out.lt)
  have FT := Lib.hid (FT.out.below hb9 FT.out.lt)
  have O4 := Lib.hid (O4.out.below hb9 O4.out.lt)
  have OI := Lib.hid (OI.out.below hb9 OI.out.lt)
  have OP := Lib.hid (OP.out.below hb9 OP.out.lt)
  have OQ := Lib.hid (OQ.out.below hb9 OQ.out.lt)
  have FQ := Lib.hid (FQ.out.below hb9 FQ.out.lt)
  have BW := Lib.hid (BW.out.trans (hb9.mono BW.out.size))
  have yw17 := hb9.size
  clear hb9
  go_wp2_with fail
  go_ret
  exact ⟨rfl, BW.out⟩
end Go.Proofs.Ytdmjghhgmpnacaa.L08
