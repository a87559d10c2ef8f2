/-
  The statements of layer 6: what they share.
  Layer 5's three texts that are always read, plainly.
  What the row's condition gives the walks: package syntax's words lie where they are laid.
  What the laws of layer 5 share: awake.
  The statements' right: has an instruction what its form asks for?
  What is shown is read as what it was, plainly: the words of a right program's lines have no byte that parts or ends them.
  What every statement of the form 'it returns true; each argument reads as it read' owes behind the walk, said once for all parameter types. No program is named here.
  An argument that is a program, opened whole: what it reads as, and that its numbers and texts are within their bounds.
  Programs as arguments: what their reach says of their texts, numbers and sizes.
-/
import Derived.Test.YtkmndgjabkjafaaGreatDoorLay6
import Derived.Test.YtkmndgjabkjafaaGreatDoorFewU
import Derived.Test.YtkmndgjabkjafaaGreatDoorParsT
import Derived.KernelRfl
import Derived.Test.YtkmndgjabkjafaaGreatDoorRows
import Derived.Test.YtkmndgjabkjafaaGreatDoorForms
import Derived.Lib.LaidU8
import Derived.LaidMore
import Derived.MakeChecks
import Derived.Test.YtkmndgjabkjafaaGreatDoorShowT
import Derived.WalkKit
import Derived.ProofKit
import Derived.OpenShut
import Derived.Carry
import Derived.Below
import Derived.SizedLaws
import Derived.Test.YtkmndgjabkjafaaGreatDoorProg
import Derived.Test.YtkmndgjabkjafaaGreatDoorPlainS
import Derived.Deep.Slices
import Derived.RowKit
import Derived.ChangeArms
namespace Go.Proofs.YtkmndgjabkjafaaGreatDoor.L06
open Go.RowKit Api Mem

/-- A row of one, just laid. -/
theorem row_one_own {α : Type} {hi size : Nat} {w : World} {g : Nat} {t : TypeId} {cs : List Value} {P : List Value → α → Prop} {x : α} (o : Own w g t cs) (hg : g < hi) (hs : cs.length = size) (hp : P cs x) : Row 0 hi w size P (.slice (some ⟨g, 0, none⟩) 1 1) [x] := by
  refine ⟨_, 1, 1, g, 0, rfl, rfl, ⟨by omega, by omega⟩, fun _ => ⟨rfl, Nat.zero_le _, hg⟩, fun i y hy => ?_⟩
  match i, hy with
  | 0, hy =>
    obtain rfl : x = y := by simpa using hy
    exact ⟨cs, hs, fun j u hj => by rw [show 0 + 0 * size + j = j by omega]; exact (o.cell j).trans hj, hp⟩
  | i + 1, hy => simp at hy
theorem row_zero {α : Type} {hi size : Nat} {w : World} {P : List Value → α → Prop} : Row 0 hi w size P (.slice none 0 0) ([] : List α) := ⟨none, 0, 0, 0, 0, rfl, rfl, by omega, by omega, fun i x h => by simp at h⟩
theorem made_as {w : World} {g : Nat} (hg : g = w.heap.size) (t : TypeId) (cs : List Value) : Own (w.alloc (.cells cs.toArray t)) g t cs := hg ▸ Own.made w t cs
def exP (t : Api.Term) : Prog := ⟨false, [], [], [], [⟨[102], [105, 110, 116], [], [], [⟨[98], [], [], t⟩]⟩]⟩
set_option maxRecDepth 100000 in
set_option maxHeartbeats 8000000 in
theorem example_any (w : World) (k ak an n : Int) (s : Wd) :
    Calls Tryz.prog 23 #[.agg #[i64 k, i64 ak, str s, i64 an, .slice none 0 0, i64 n]] w fun e w' => ∃ cs, e = .returned (.agg cs.toArray) ∧ ProgC 0 w'.heap.size w' cs (exP ⟨k, ⟨ak, s, an⟩, [], n⟩) ∧ Below w.heap.size w w' := by
  go_enter Tryz.func23, Tryz.ntmps23
  go_wp2_with fail
  obtain ⟨c1, h1⟩ : ∃ c : List Value, c = [i64 k, i64 ak, str s, i64 an, .slice none 0 0, i64 n] := ⟨_, rfl⟩
  obtain ⟨c2, h2⟩ : ∃ c : List Value, c = [.bool false, .slice none 0 0, .slice none 0 0, .slice none 0 0, .slice (some ⟨w.heap.size + 1 + 1 + 1, 0, none⟩) 1 1] := ⟨_, rfl⟩
  obtain ⟨c3, h3⟩ : ∃ c : List Value, c = [str [98], .slice none 0 0, .slice none 0 0, i64 k, i64 ak, str s, i64 an, .slice none 0 0, i64 n] := ⟨_, rfl⟩
  obtain ⟨c4, h4⟩ : ∃ c : List Value, c = [str [102], str [105, 110, 116], .slice none 0 0, .slice none 0 0, .slice (some ⟨w.heap.size + 1 + 1, 0, none⟩) 1 1] := ⟨_, rfl⟩
  obtain ⟨W, hW⟩ : ∃ W, (((w.alloc (.cells c1.toArray 45)).alloc (.cells c2.toArray 27)).alloc (.cells c3.toArray 47)).alloc (.cells c4.toArray 38) = W := ⟨_, rfl⟩
  have o3 : Own W (w.heap.size + 1 + 1) 47 c3 := by rw [← hW]; exact (made_as (by simp) _ _).alloc _
  have o4 : Own W (w.heap.size + 1 + 1 + 1) 38 c4 := by rw [← hW]; exact made_as (by simp) _ _
  have hz : W.heap.size = w.heap.size + 4 := by rw [← hW]; simp
  have hb : Below w.heap.size w W := by rw [← hW]; exact ((((Below.refl _ _).alloc (Nat.le_refl _) _).alloc (by simp) _).alloc (by simp; omega) _).alloc (by simp; omega) _
  have hp : ProgC 0 W.heap.size W c2 (exP ⟨k, ⟨ak, s, an⟩, [], n⟩) := by
    refine ⟨_, _, _, _, h2, row_zero, row_zero, row_zero, row_one_own o4 (by omega) (by rw [h4]; rfl) ⟨_, _, _, h4, row_zero, row_zero, row_one_own o3 (by omega) (by rw [h3]; rfl) ⟨_, _, _, h3, row_zero, row_zero, _, rfl, row_zero⟩⟩⟩
  refine bodyPost_ret (v := .agg #[.bool false, .slice none 0 0, .slice none 0 0, .slice none 0 0, .slice (some ⟨w.heap.size + 1 + 1 + 1, 0, none⟩) 1 1]) (by rw [Rd5.results_cell rfl]; go_simp) rfl ?_
  subst h1
  subst h3
  subst h4
  have h2' := h2
  subst h2
  rw [hW]
  exact ⟨_, rfl, hp, hb⟩
theorem text_ok : Rd5.textV (exP ⟨3, ⟨2, [], 5⟩, [], 0⟩) = ([102, 117, 110, 99, 32, 102, 32, 105, 110, 116, 10, 98, 108, 111, 99, 107, 32, 98, 10, 114, 101, 116, 32, 53, 10], 0) := by kernel_rfl
theorem text_bad : Rd5.textV (exP ⟨0, ⟨0, [], 0⟩, [], 0⟩) = ([], 1) := by kernel_rfl
theorem ex_bd (t : Api.Term) : ∀ f ∈ (exP t).funcs, Sh6.Bd f := by
  intro f hf
  simp only [exP, List.mem_singleton] at hf
  subst hf
  unfold Sh6.Bd
  simp
theorem ex_in (k ak an n : Int) (s : Wd) (h1 : NumM.In an) (h2 : NumM.In n) : Rd5.progI (exP ⟨k, ⟨ak, s, an⟩, [], n⟩) := by
  intro f hf b hb
  simp only [exP, List.mem_singleton] at hf
  subst hf
  simp only [List.mem_singleton] at hb
  subst hb
  exact ⟨(fun _ h => by cases h), (fun _ h => by cases h), h1, h2⟩
set_option maxRecDepth 100000 in
set_option maxHeartbeats 8000000 in
theorem awake_any (w : World) (hL : Rd5.LaidS w) : Calls Tryz.prog 11 #[] w fun e w' => e = .returned (.bool true) ∧ Below w.heap.size w w' := by
  have HL := Lib.hid hL
  have E1 := Lib.hid (example_any w 3 2 5 0 [])
  have E2 := Lib.hid fun w' => example_any w' 0 0 0 0 []
  clear hL
  go_enter Tryz.func11, Tryz.ntmps11
  go_wp2_with fail
  refine E1.out.mono ?_
  rintro e w1 ⟨cs1, rfl, hp1, hb1⟩
  have T1 := Sh6.text_any 0 w1.heap.size w1 cs1 _ hp1 (Nat.le_refl _) (HL.out.below hb1 (Nat.le_refl _)) (ex_bd _) (ex_in _ _ _ _ _ (by unfold NumM.In; omega) (by unfold NumM.In; omega)) (fun _ h => by cases h)
  rw [text_ok] at T1
  have T2 := Lib.hid T1
  have HB1 := Lib.hid hb1
  clear hp1 hb1 T1
  go_wp2_with fail
  refine T2.out.mono ?_
  rintro e w2 ⟨rfl, hb2⟩
  have HB2 := Lib.hid (HB1.out.trans (hb2.mono HB1.out.size))
  clear hb2
  go_wp2_with fail
  refine (E2.out _).mono ?_
  rintro e w3 ⟨cs3, rfl, hp3, hb3⟩
  have hb3' := HB2.out.trans (hb3.mono HB2.out.size)
  have T3 := Sh6.text_any 0 w3.heap.size w3 cs3 _ hp3 (Nat.le_refl _) (HL.out.below hb3' (Nat.le_refl _)) (ex_bd _) (ex_in _ _ _ _ _ (by unfold NumM.In; omega) (by unfold NumM.In; omega)) (fun _ h => by cases h)
  rw [text_bad] at T3
  have T4 := Lib.hid T3
  have HB3 := Lib.hid hb3'
  clear hp3 hb3 hb3' T3
  go_wp2_with fail
  refine T4.out.mono ?_
  rintro e w4 ⟨rfl, hb4⟩
  have HB4 := Lib.hid (HB3.out.trans (hb4.mono HB3.out.size))
  clear hb4
  go_wp2_with fail
  go_ret
  exact ⟨rfl, HB4.out⟩
end Go.Proofs.YtkmndgjabkjafaaGreatDoor.L06

namespace Go.Proofs.YtkmndgjabkjafaaGreatDoor.Rd5
open Go.RowKit Api Syn WordM

/-- func f int, block b, x = add 1 y, ret x. -/
def awake1 : List UInt8 := [102, 117, 110, 99, 32, 102, 32, 105, 110, 116, 10, 98, 108, 111, 99, 107, 32, 98, 10, 120, 32, 61, 32, 97, 100, 100, 32, 49, 32, 121, 10, 114, 101, 116, 32, 120, 10]
def awakeP : Prog := ⟨false, [], [], [], [⟨[102], [105, 110, 116], [], [], [⟨[98], [], [⟨1, [120], [], [⟨2, [], 1⟩, ⟨1, [121], 0⟩], [], []⟩], ⟨3, ⟨1, [120], 0⟩, [], 0⟩⟩]⟩]⟩
theorem awake_1 : textE awake1 = .ok awakeP := by kernel_rfl
theorem awake_2 : textE [120, 32, 61, 32, 97, 100, 100, 32, 49, 32, 50] = .error (1, 3) := by kernel_rfl
theorem awake_3 : textE [102, 117, 110, 99, 32, 102, 32, 105, 110, 116, 10] = .error (0, 3) := by kernel_rfl
end Go.Proofs.YtkmndgjabkjafaaGreatDoor.Rd5

namespace Go.Proofs.YtkmndgjabkjafaaGreatDoor.Rd5
open Go.RowKit Api Syn WordM

theorem swords_named : Tryz.prog.globalNamed "lateen/syntax.words" = some 1 := by kernel_rfl
theorem swords_type : (Tryz.prog.globals[1]?).map (·.type) = some 201 := by kernel_rfl
theorem swords_cells : Tryz.prog.cellsOf 9 = 1 := by kernel_rfl
/-- The words' datum. -/
theorem swords_datum : (Rows.laid_lateen_syntax_words : DataW Unit) = .agg (opWords.map fun x => .lit (.string x)) := rfl

theorem laid_of {W : World} {L : List (String × DataW Unit)} (h : laidMet Tryz.prog L W) (hm : ("lateen/syntax.words", (Rows.laid_lateen_syntax_words : DataW Unit)) ∈ L) : LaidS W := by
  have hr := Lib.laidMet.reads h hm
  obtain ⟨g, t, cs, f, p, hg, ht, hv, hd⟩ := hr
  obtain rfl := Option.some.inj (swords_named.symm.trans hg)
  obtain rfl := Option.some.inj (swords_type.symm.trans ht)
  rw [swords_datum] at hd
  intro i x hx
  have hi : i < 35 := (List.getElem?_eq_some_iff.1 hx).1
  obtain ⟨f2, d, q, hdi, he⟩ := Lib.array_elem Tryz.underlying201 hd i hi
  rw [List.getElem?_map, hx] at hdi
  obtain rfl := Option.some.inj hdi
  obtain ⟨s, hs, hx2, _⟩ := DataW.trod_string Tryz.underlying9 he
  have e1 : s.data.toList = x := by
    have := congrArg Prod.fst hx2
    simpa using this.symm
  have hc := World.var?_cell hg hv i
  rw [hc]
  rw [swords_cells, Nat.mul_one] at hs
  have e2 : cs.toList[i]? = some (.string s) := by
    have := congrArg (·[0]?) hs
    simpa using this
  rw [Array.getElem?_toList] at e2
  rw [e2, ← e1]
/-- The condition of the laws that lay package syntax's words alone. -/
theorem laid_swords {W : World} (h : laidMetH Tryz.prog [("lateen/syntax.words", Rows.laid_lateen_syntax_words)] W) : LaidS W := by
  rw [MakeChecks.laidMetH_plain _ _ _ (by kernel_rfl)] at h
  exact laid_of h (.head _)
end Go.Proofs.YtkmndgjabkjafaaGreatDoor.Rd5

namespace Go.Proofs.YtkmndgjabkjafaaGreatDoor.Rd5
open Go.RowKit Api Syn WordM Mem

variable {w w' w1 w2 : World} {lo hi : Nat}
theorem row_nil {α : Type} {size : Nat} {P : List Value → α → Prop} {v : Value} (h : Row lo hi w size P v ([] : List α)) : ∃ A cap, v = .slice A 0 cap := by
  obtain ⟨A, n, cap, b, off, rfl, hn, _⟩ := h
  subst hn
  exact ⟨A, cap, rfl⟩
theorem row_one {α : Type} {size : Nat} {P : List Value → α → Prop} {v : Value} {x : α} (h : Row lo hi w size P v [x]) :
    ∃ b off cap cs, v = .slice (some ⟨b, off, none⟩) 1 cap ∧ b < hi ∧ (∀ j u, cs[j]? = some u → w.cell? ⟨b, off + j, none⟩ = some u) ∧ P cs x := by
  obtain ⟨A, n, cap, b, off, rfl, hn, _, ha, hc⟩ := h
  obtain ⟨rfl, _, hb⟩ := ha (by simp at hn; omega)
  obtain ⟨cs, _, h1, h2⟩ := hc 0 x rfl
  refine ⟨b, off, cap, cs, by rw [hn]; rfl, hb, fun j u hj => ?_, h2⟩
  have := h1 j u hj
  simpa using this
theorem awake_open {cs : List Value} (h : ProgC lo hi w cs awakeP) :
    ∃ A1 k1 A2 k2 A3 k3 b1 o1 c1 b2 o2 c2 b3 o3 c3 P1 p1 P2 p2, cs = [.bool false, .slice A1 0 k1, .slice A2 0 k2, .slice A3 0 k3, .slice (some ⟨b1, o1, none⟩) 1 c1] ∧
      ∀ w', Below hi w w' → w'.cell? ⟨b1, o1 + 4, none⟩ = some (.slice (some ⟨b2, o2, none⟩) 1 c2) ∧
        w'.cell? ⟨b2, o2, none⟩ = some (str [98]) ∧ w'.cell? ⟨b2, o2 + 1, none⟩ = some (.slice P1 0 p1) ∧ w'.cell? ⟨b2, o2 + 2, none⟩ = some (.slice (some ⟨b3, o3, none⟩) 1 c3) ∧ w'.cell? ⟨b2, o2 + 3, none⟩ = some (i64 3) ∧ w'.cell? ⟨b2, o2 + 4, none⟩ = some (i64 1) ∧ w'.cell? ⟨b2, o2 + 5, none⟩ = some (str [120]) ∧ w'.cell? ⟨b2, o2 + 6, none⟩ = some (i64 0) ∧ w'.cell? ⟨b2, o2 + 7, none⟩ = some (.slice P2 0 p2) ∧ w'.cell? ⟨b2, o2 + 8, none⟩ = some (i64 0) ∧
        w'.cell? ⟨b3, o3, none⟩ = some (i64 1) ∧ w'.cell? ⟨b3, o3 + 1, none⟩ = some (str [120]) := by
  obtain ⟨u1, u2, u3, u4, rfl, h1, h2, h3, h4⟩ := h
  obtain ⟨A1, k1, rfl⟩ := row_nil h1
  obtain ⟨A2, k2, rfl⟩ := row_nil h2
  obtain ⟨A3, k3, rfl⟩ := row_nil h3
  obtain ⟨b1, o1, c1, s1, rfl, g1, e1, v1, v2, v3, rfl, _, _, h5⟩ := row_one h4
  obtain ⟨b2, o2, c2, s2, rfl, g2, e2, y1, y2, y3, rfl, h6, h7, y4, rfl, h8⟩ := row_one h5
  obtain ⟨P1, p1, rfl⟩ := row_nil h6
  obtain ⟨P2, p2, rfl⟩ := row_nil h8
  obtain ⟨b3, o3, c3, s3, rfl, g3, e3, z1, z2, z3, rfl, _, _, _⟩ := row_one h7
  refine ⟨A1, k1, A2, k2, A3, k3, b1, o1, c1, b2, o2, c2, b3, o3, c3, P1, p1, P2, p2, rfl, fun w' hb => ?_⟩
  have f1 : ∀ j u, _ → w'.cell? ⟨b1, o1 + j, none⟩ = some u := fun j u hj => (hb.cell (p := ⟨b1, o1 + j, none⟩) g1).trans (e1 j u hj)
  have f2 : ∀ j u, _ → w'.cell? ⟨b2, o2 + j, none⟩ = some u := fun j u hj => (hb.cell (p := ⟨b2, o2 + j, none⟩) g2).trans (e2 j u hj)
  have f3 : ∀ j u, _ → w'.cell? ⟨b3, o3 + j, none⟩ = some u := fun j u hj => (hb.cell (p := ⟨b3, o3 + j, none⟩) g3).trans (e3 j u hj)
  exact ⟨f1 4 _ rfl, f2 0 _ rfl, f2 1 _ rfl, f2 2 _ rfl, f2 3 _ rfl, f2 4 _ rfl, f2 5 _ rfl, f2 6 _ rfl, f2 7 _ rfl, f2 8 _ rfl, f3 0 _ rfl, f3 1 _ rfl⟩
theorem parsP_err {e : Ending} {r : Except (Nat × Int) Prog} {x : Nat × Int} (h : ParsP w r e w') (hr : r = .error x) : e = .returned (.tuple #[.agg #[.bool false, .slice none 0 0, .slice none 0 0, .slice none 0 0, .slice none 0 0], i64 (x.1 : Int), i64 x.2]) ∧ Below w.heap.size w w' := by
  subst hr; exact ⟨h.2, h.1⟩
theorem parsP_ok {e : Ending} {r : Except (Nat × Int) Prog} {p : Prog} (h : ParsP w r e w') (hr : r = .ok p) : ∃ cs, e = .returned (.tuple #[.agg cs.toArray, i64 0, i64 0]) ∧ ProgC w.heap.size w'.heap.size w' cs p ∧ Below w.heap.size w w' := by
  subst hr; obtain ⟨h1, cs, h2, h3⟩ := h; exact ⟨cs, h2, h3, h1⟩
set_option maxRecDepth 100000 in
set_option maxHeartbeats 8000000 in
theorem awake_any (w : World) (hL : LaidS w) : Calls Tryz.prog 9 #[] w fun e w' => e = .returned (.bool true) ∧ Below w.heap.size w w' := by
  have Q1 := Lib.hid fun w (h : LaidS w) => pars_any ⟨#[102, 117, 110, 99, 32, 102, 32, 105, 110, 116, 10, 98, 108, 111, 99, 107, 32, 98, 10, 120, 32, 61, 32, 97, 100, 100, 32, 49, 32, 121, 10, 114, 101, 116, 32, 120, 10]⟩ w (by unfold maxLen; decide) h
  have Q2 := Lib.hid fun w (h : LaidS w) => pars_any ⟨#[120, 32, 61, 32, 97, 100, 100, 32, 49, 32, 50]⟩ w (by unfold maxLen; decide) h
  have Q3 := Lib.hid fun w (h : LaidS w) => pars_any ⟨#[102, 117, 110, 99, 32, 102, 32, 105, 110, 116, 10]⟩ w (by unfold maxLen; decide) h
  have HL := Lib.hid hL
  clear hL
  go_enter Tryz.func9, Tryz.ntmps9
  go_wp2_with fail
  refine (Q1.out _ HL.out).mono ?_
  intro e w1 hP
  obtain ⟨cs, rfl, hp, hb1⟩ := parsP_ok hP awake_1
  obtain ⟨A1, k1, A2, k2, A3, k3, b1, o1, c1, b2, o2, c2, b3, o3, c3, P1, p1, P2, p2, rfl, hcell⟩ := awake_open hp
  have HC := Lib.hid hcell
  have HB1 := Lib.hid hb1
  have HL1 := Lib.hid (HL.out.below hb1 (Nat.le_refl _))
  clear hP hp hb1 hcell
  go_wp2_with fail
  refine (Q2.out _ (HL1.out.below ((Below.refl _ _).alloc (Nat.le_refl _) _) (Nat.le_refl _))).mono ?_
  intro e w2 hP
  obtain ⟨rfl, hb2⟩ := parsP_err hP awake_2
  have HZ := Lib.hid ((Own.made w1 27 [.bool false, .slice A1 0 k1, .slice A2 0 k2, .slice A3 0 k3, .slice (some ⟨b1, o1, none⟩) 1 c1]).below hb2 (by simp))
  have HB2 := Lib.hid (((Below.refl w1.heap.size w1).alloc (Nat.le_refl _) (.cells #[.bool false, .slice A1 0 k1, .slice A2 0 k2, .slice A3 0 k3, .slice (some ⟨b1, o1, none⟩) 1 c1] 27)).trans (hb2.mono (by simp)))
  have HS2 : Hid (w1.heap.size < w2.heap.size) := Lib.hid (z_size hb2)
  clear hP hb2
  go_wp2_with fail
  refine (Q3.out _ ((HL1.out.below HB2.out (Nat.le_refl _)).below ((Below.refl _ _).alloc (Nat.le_refl _) _) (Nat.le_refl _))).mono ?_
  intro e w3 hP
  obtain ⟨rfl, hb3⟩ := parsP_err hP awake_3
  have hZ3 := HZ.out.below ((((Below.refl w2.heap.size w2).alloc (Nat.le_refl _) (.cells #[.bool false, .slice none 0 0, .slice none 0 0, .slice none 0 0, .slice none 0 0] 27)).trans (hb3.mono (by simp)))) HS2.out
  have HB3 := Lib.hid (((Below.refl w2.heap.size w2).alloc (Nat.le_refl _) (.cells #[.bool false, .slice none 0 0, .slice none 0 0, .slice none 0 0, .slice none 0 0] 27)).trans (hb3.mono (by simp)))
  obtain ⟨⟨d0, d1, d2, d3, d4⟩, z0, z1, z2, z3, z4⟩ := res_cells hZ3
  obtain ⟨x1, y0, y1, y2, y3, y4, y5, y6, y7, y8, t0, t1⟩ := HC.out w3 (HB2.out.trans (HB3.out.mono (Nat.le_of_lt HS2.out)))
  have HF := Lib.hid (((Below.refl w.heap.size w).trans HB1.out).trans ((HB2.out.mono HB1.out.size).trans (HB3.out.mono (Nat.le_trans HB1.out.size (Nat.le_of_lt HS2.out)))))
  have l0 : w1.heap.size < w3.heap.size := World.block_lt_of_cell? w3 _ d0
  have l1 : b1 < w3.heap.size := World.block_lt_of_cell? w3 _ x1
  have l2 : b2 < w3.heap.size := World.block_lt_of_cell? w3 _ y0
  have l3 : b3 < w3.heap.size := World.block_lt_of_cell? w3 _ t0
  have dd4 := al_cell (x := .cells #[.bool false, .slice none 0 0, .slice none 0 0, .slice none 0 0, .slice none 0 0] 27) d4
  have xx1 := al_cell (x := .cells #[.bool false, .slice none 0 0, .slice none 0 0, .slice none 0 0, .slice none 0 0] 27) x1
  have yy0 := al_cell (x := .cells #[.bool false, .slice none 0 0, .slice none 0 0, .slice none 0 0, .slice none 0 0] 27) y0
  have yy1 := al_cell (x := .cells #[.bool false, .slice none 0 0, .slice none 0 0, .slice none 0 0, .slice none 0 0] 27) y1
  have yy2 := al_cell (x := .cells #[.bool false, .slice none 0 0, .slice none 0 0, .slice none 0 0, .slice none 0 0] 27) y2
  have yy3 := al_cell (x := .cells #[.bool false, .slice none 0 0, .slice none 0 0, .slice none 0 0, .slice none 0 0] 27) y3
  have yy4 := al_cell (x := .cells #[.bool false, .slice none 0 0, .slice none 0 0, .slice none 0 0, .slice none 0 0] 27) y4
  have yy5 := al_cell (x := .cells #[.bool false, .slice none 0 0, .slice none 0 0, .slice none 0 0, .slice none 0 0] 27) y5
  have yy6 := al_cell (x := .cells #[.bool false, .slice none 0 0, .slice none 0 0, .slice none 0 0, .slice none 0 0] 27) y6
  have yy7 := al_cell (x := .cells #[.bool false, .slice none 0 0, .slice none 0 0, .slice none 0 0, .slice none 0 0] 27) y7
  have yy8 := al_cell (x := .cells #[.bool false, .slice none 0 0, .slice none 0 0, .slice none 0 0, .slice none 0 0] 27) y8
  have tt0 := al_cell (x := .cells #[str [98], .slice P1 0 p1, .slice (some ⟨b3, o3, none⟩) 1 c3, i64 3, i64 1, str [120], i64 0, .slice P2 0 p2, i64 0] 47) (al_cell (x := .cells #[.bool false, .slice none 0 0, .slice none 0 0, .slice none 0 0, .slice none 0 0] 27) t0)
  have tt1 := al_cell (x := .cells #[str [98], .slice P1 0 p1, .slice (some ⟨b3, o3, none⟩) 1 c3, i64 3, i64 1, str [120], i64 0, .slice P2 0 p2, i64 0] 47) (al_cell (x := .cells #[.bool false, .slice none 0 0, .slice none 0 0, .slice none 0 0, .slice none 0 0] 27) t1)
  clear hP hb3 hZ3
  go_wp2_with fail
  go_ret
  exact ⟨rfl, (HF.out.alloc HF.out.size _).alloc (by have := HF.out.size; simp; omega) _⟩
end Go.Proofs.YtkmndgjabkjafaaGreatDoor.Rd5

namespace Go.Proofs.YtkmndgjabkjafaaGreatDoor.Rd5
open Go.RowKit Api Syn WordM Mem

variable {lo hi : Nat} {w : World}
theorem boxed1 {w W : World} {t : TypeId} {c : List Value} (h : w.alloc (.cells c.toArray t) = W) : Own W w.heap.size t c ∧ Below w.heap.size w W ∧ W.heap.size = w.heap.size + 1 := by
  subst h
  exact ⟨Own.made w t c, (Below.refl _ _).alloc (Nat.le_refl _) _, by simp⟩
theorem own_hold {g B : Nat} {t : TypeId} {cs : List Value} {w' : World} (o : Own w g t cs) (hb : Below B w w') (hg : g < B) (i : Nat) {u : Value} (h : cs[i]? = some u) : w'.cell? ⟨g, i, none⟩ = some u := ((o.below hb hg).cell i).trans h
theorem textE_errs {s : List UInt8} {x : Nat × Int} (h : textE s = .error x) : x.2 ≠ 0 := by
  unfold textE at h
  split at h
  · rename_i hy
    injection h with h
    subst h
    simp only
    omega
  · have := parseE_errs h
    omega
end Go.Proofs.YtkmndgjabkjafaaGreatDoor.Rd5

namespace Go.Proofs.YtkmndgjabkjafaaGreatDoor.Rd5
open Go.RowKit Api Syn WordM
open LinesM hiding Wd

theorem kind_num {c : UInt8} (h1 : 33 ≤ c.toNat) (h2 : c.toNat ≤ 126) (h3 : c.toNat ≠ 59) : kindB c = 0 := by
  unfold kindB
  have e1 : ¬ (c = 32 ∨ c = 9) := by
    rintro (rfl | rfl)
    · revert h1; decide
    · revert h1; decide
  have e2 : ¬ c = 59 := by rintro rfl; exact h3 (by decide)
  rw [if_neg e1, if_neg e2, if_pos ⟨h1, h2⟩]
theorem kind_let {c : UInt8} (h : (letB c || digB c) = true) : kindB c = 0 := by
  unfold letB digB at h
  simp only [Bool.or_eq_true, Bool.and_eq_true, decide_eq_true_eq, beq_iff_eq] at h
  exact kind_num (by omega) (by omega) (by omega)
theorem name_clean {x : Wd} (h : nameV x = true) : clean x := by
  have h0 := h
  unfold nameV at h
  simp only [Bool.and_eq_true, decide_eq_true_eq] at h
  obtain ⟨⟨⟨⟨⟨⟨h1, _⟩, _⟩, h4⟩, _⟩, _⟩, _⟩ := h
  refine ⟨by rintro rfl; simp at h1, fun c hc => kind_let (List.all_eq_true.1 h4 c hc)⟩
theorem lit_clean (x : Wd) (h : (x != [] && x.all fun c => kindB c == 0) = true) : clean x := by
  simp only [Bool.and_eq_true, bne_iff_ne, ne_eq, List.all_eq_true, beq_iff_eq] at h
  exact ⟨h.1, h.2⟩
theorem kind_clean {x : Wd} (h : kindV x = true) : clean x := by
  unfold kindV at h
  simp only [Bool.or_eq_true, beq_iff_eq] at h
  rcases h with (rfl | rfl) | h
  · exact lit_clean _ (by decide)
  · exact lit_clean _ (by decide)
  · exact name_clean h
theorem digsF_clean : ∀ (f r : Nat) (l : List UInt8), (∀ c ∈ l, kindB c = 0) → ∀ c ∈ NumM.digsF f r l, kindB c = 0
  | 0, _, l, h => h
  | f + 1, r, l, h => by
    have hd : kindB (NumM.dig r) = 0 := by
      have := NumM.dig_val r
      exact kind_num (by omega) (by omega) (by omega)
    have hc : ∀ c ∈ NumM.dig r :: l, kindB c = 0 := by
      intro c hc
      rcases List.mem_cons.1 hc with rfl | hc
      · exact hd
      · exact h c hc
    unfold NumM.digsF
    split
    · exact hc
    · exact digsF_clean f (r / 10) _ hc
theorem digs_ne (r : Nat) : NumM.digs r ≠ [] := by rw [NumM.digs_last]; split <;> simp
theorem dec_clean (n : Int) : clean (NumM.dec n) := by
  have hd : ∀ r, ∀ c ∈ NumM.digs r, kindB c = 0 := fun r => digsF_clean _ _ _ (fun _ h => by cases h)
  unfold NumM.dec
  split
  · refine ⟨by simp, fun c hc => ?_⟩
    rcases List.mem_cons.1 hc with rfl | hc
    · decide
    · exact hd _ c hc
  · exact ⟨digs_ne _, hd _⟩
theorem hexs_clean : ∀ (k u : Nat), ∀ c ∈ FloM.hexs k u, kindB c = 0
  | 0, _ => fun c h => by cases h
  | k + 1, u => by
    intro c hc
    unfold FloM.hexs at hc
    rw [List.mem_append, List.mem_singleton] at hc
    rcases hc with hc | rfl
    · exact hexs_clean k _ c hc
    · have := FloM.hx_val u
      split at this
      · exact kind_num (by omega) (by omega) (by omega)
      · exact kind_num (by omega) (by omega) (by omega)
theorem put_clean (n : Int) : clean (FloM.putV n) := by
  unfold FloM.putV
  refine ⟨by simp, fun c hc => ?_⟩
  rw [List.mem_append] at hc
  rcases hc with hc | hc
  · revert c; decide
  · exact hexs_clean _ _ c hc
theorem arg_clean {a : Arg} (h : argR a = true) : clean (putA a) := by
  unfold putA
  have ra : rightV (ofA a) = true := h
  rcases right_cases ra with ⟨u, e, hn⟩ | ⟨n, e⟩ | ⟨n, e, hpl⟩ | e | ⟨n, e, hn⟩
  · rw [e, wput1 hn]; exact name_clean hn
  · rw [e, wput2]; exact dec_clean n
  · rw [e, wput3 hpl]; exact put_clean n
  · rw [e, wput4]; exact lit_clean _ (by decide)
  · rw [e, wput5 hn]
    refine ⟨by simp, fun c hc => ?_⟩
    rcases List.mem_cons.1 hc with rfl | hc
    · decide
    · exact (dec_clean n).2 c hc
theorem argx_clean {a : Arg} (h : argX a = true) : clean (putA a) := arg_clean (x_of h).1
def CL (L : List (List Wd)) : Prop := ∀ ws ∈ L, ∀ x ∈ ws, clean x
theorem CL.app {a b : List (List Wd)} (ha : CL a) (hb : CL b) : CL (a ++ b) := fun ws h => (List.mem_append.1 h).elim (ha ws) (hb ws)
theorem CL.cons {a : List Wd} {b : List (List Wd)} (ha : ∀ x ∈ a, clean x) (hb : CL b) : CL (a :: b) := by
  intro ws h
  rcases List.mem_cons.1 h with rfl | h
  · exact ha
  · exact hb ws h
theorem CL.nil : CL [] := fun _ h => by cases h
theorem CL.map {α : Type} {f : α → List Wd} {l : List α} (h : ∀ x ∈ l, ∀ y ∈ f x, clean y) : CL (l.map f) := by
  intro ws hw
  obtain ⟨x, hx, rfl⟩ := List.mem_map.1 hw
  exact h x hx
theorem CL.flat {α : Type} {f : α → List (List Wd)} {l : List α} (h : ∀ x ∈ l, CL (f x)) : CL (l.flatMap f) := by
  intro ws hw
  obtain ⟨x, hx, hy⟩ := List.mem_flatMap.1 hw
  exact h x hx ws hy
theorem var_clean {v : Var} (h : varR v = true) {k : Wd} (hk : clean k) : ∀ x ∈ varL k v, clean x := by
  unfold varR at h
  simp only [Bool.and_eq_true] at h
  intro x hx
  simp only [varL, List.mem_cons, List.not_mem_nil, or_false] at hx
  rcases hx with rfl | rfl | rfl
  · exact hk
  · exact name_clean h.1
  · exact kind_clean h.2
theorem binds_clean {l : List Bind} (h : ∀ b ∈ l, nameV b.name = true ∧ clean (putA b.a)) : ∀ x ∈ l.flatMap bindL, clean x := by
  intro x hx
  obtain ⟨b, hb, hy⟩ := List.mem_flatMap.1 hx
  simp only [bindL, List.mem_cons, List.not_mem_nil, or_false] at hy
  rcases hy with rfl | rfl
  · exact name_clean (h b hb).1
  · exact (h b hb).2
theorem phi_clean {p : Phi} (h : phiR p = true) : ∀ x ∈ phiL p, clean x := by
  unfold phiR allR at h
  simp only [Bool.and_eq_true, decide_eq_true_eq, List.all_eq_true] at h
  obtain ⟨h1, _, _, h4⟩ := h
  intro x hx
  simp only [phiL, List.mem_cons] at hx
  rcases hx with rfl | rfl | hx
  · exact lit_clean _ (by decide)
  · exact name_clean h1
  · exact binds_clean (fun b hb => by
      have := h4 b hb
      unfold inR at this
      simp only [Bool.and_eq_true] at this
      exact ⟨this.1, argx_clean this.2⟩) x hx
theorem frame_clean {f : Api.Frame} (h : frameR f = true) : ∀ x ∈ frameL f, clean x := by
  unfold frameR allR at h
  simp only [Bool.and_eq_true, decide_eq_true_eq, List.all_eq_true] at h
  obtain ⟨h1, h2, _, _, h6⟩ := h
  intro x hx
  simp only [frameL, List.mem_cons] at hx
  rcases hx with rfl | rfl | rfl | rfl | hx
  · exact lit_clean _ (by decide)
  · exact name_clean h1
  · exact name_clean h2
  · exact dec_clean _
  · exact binds_clean (fun b hb => by
      have := h6 b hb
      unfold bindR at this
      simp only [Bool.and_eq_true] at this
      exact ⟨this.1, arg_clean this.2⟩) x hx
theorem virt_clean {f : Virt} (h : virtR f = true) : ∀ x ∈ virtL f, clean x := by
  unfold virtR allR at h
  simp only [Bool.and_eq_true, decide_eq_true_eq, List.all_eq_true] at h
  obtain ⟨h1, _, h3⟩ := h
  intro x hx
  simp only [virtL, List.mem_cons, List.mem_map] at hx
  rcases hx with rfl | rfl | ⟨a, ha, rfl⟩
  · exact lit_clean _ (by decide)
  · exact name_clean h1
  · exact arg_clean (h3 a ha)
theorem opw_clean {op : Int} (h : (formV op).2 = true) : clean (opWords.getD op.toNat []) := by
  have hr : 1 ≤ op ∧ op ≤ 34 := by
    unfold formV at h
    split at h
    · cases h
    · omega
  have hall : ∀ k ∈ List.range 34, ((opWords.getD (k + 1) []) != [] && (opWords.getD (k + 1) []).all fun c => kindB c == 0) = true := by decide +kernel
  obtain ⟨k, hk⟩ : ∃ k, op.toNat = k + 1 := ⟨op.toNat - 1, by omega⟩
  rw [hk]
  exact lit_clean _ (hall k (List.mem_range.2 (by omega)))
theorem instr_clean {i : Instr} (h : instrR i = true) : CL (instrLs i) := by
  unfold instrR at h
  simp only [Bool.and_eq_true, decide_eq_true_eq, List.all_eq_true] at h
  obtain ⟨hf, hd, hn, _, ⟨_, hx⟩, hst0⟩ := h
  have hst : (∀ f ∈ i.frames, frameR f = true) ∧ (∀ o ∈ i.objs, virtR o = true) := by
    unfold stateR at hst0
    split at hst0
    · simp only [Bool.and_eq_true, decide_eq_true_eq, List.length_eq_zero_iff] at hst0
      rw [hst0.1, hst0.2]
      simp
    · simp only [Bool.and_eq_true] at hst0
      unfold allR at hst0
      simp only [Bool.and_eq_true, List.all_eq_true] at hst0
      exact ⟨hst0.1.2, hst0.2.2⟩
  have hW : ∀ x ∈ instrW i, clean x := by
    intro x hw
    simp only [instrW, List.mem_cons, List.mem_append, List.mem_map] at hw
    rcases hw with rfl | ⟨a, ha, rfl⟩ | hw | ⟨a, ha, rfl⟩
    · exact opw_clean hf
    · exact argx_clean (hx a (List.mem_of_mem_take ha))
    · split at hw
      · rename_i hnm
        rw [List.mem_singleton] at hw
        subst hw
        rw [hnm] at hn
        exact name_clean (by simpa [noneR] using hn)
      · cases hw
    · exact argx_clean (hx a (List.mem_of_mem_drop ha))
  have hL : ∀ x ∈ instrL i, clean x := by
    unfold instrL
    split
    · exact hW
    · rename_i hne
      intro x hw
      simp only [List.mem_cons] at hw
      rcases hw with rfl | rfl | hw
      · unfold noneR at hd
        split at hd
        · exact name_clean hd
        · simp only [beq_iff_eq] at hd
          exact absurd hd hne
      · exact lit_clean _ (by decide)
      · exact hW x hw
  exact CL.cons hL (CL.app (CL.map fun f hf => frame_clean (hst.1 f hf)) (CL.map fun o ho => virt_clean (hst.2 o ho)))
theorem end_clean {t : Api.Term} (h : finR t = true) : ∀ x ∈ endL t, clean x := by
  unfold finR at h
  unfold endL
  have hdest : ∀ n, destsR n t.dest = true → ∀ x ∈ t.dest, clean x := by
    intro n hd
    unfold destsR at hd
    simp only [Bool.and_eq_true, decide_eq_true_eq, List.all_eq_true] at hd
    exact fun x hx => name_clean (hd.2 x hx)
  split at h
  · rename_i h1
    rw [if_pos h1]
    simp only [Bool.and_eq_true] at h
    intro x hx
    rcases List.mem_cons.1 hx with rfl | hx
    · exact lit_clean _ (by decide)
    · exact hdest _ h.2.1 x hx
  · rename_i h1
    rw [if_neg h1]
    split at h
    · rename_i h2
      rw [if_pos h2]
      simp only [Bool.and_eq_true] at h
      intro x hx
      simp only [List.mem_cons] at hx
      rcases hx with rfl | rfl | hx
      · exact lit_clean _ (by decide)
      · exact argx_clean h.1
      · exact hdest _ h.2.1 x hx
    · rename_i h2
      rw [if_neg h2]
      split at h
      · rename_i h3
        rw [if_pos h3]
        simp only [Bool.and_eq_true] at h
        intro x hx
        simp only [List.mem_cons, List.not_mem_nil, or_false] at hx
        rcases hx with rfl | rfl
        · exact lit_clean _ (by decide)
        · exact argx_clean h.1
      · rename_i h3
        rw [if_neg h3]
        intro x hx
        simp only [List.mem_cons, List.not_mem_nil, or_false] at hx
        rcases hx with rfl | rfl
        · exact lit_clean _ (by decide)
        · exact dec_clean _
theorem block_clean {b : Api.Block} (h : blockR b = true) : CL (blockLs b) := by
  unfold blockR allR at h
  simp only [Bool.and_eq_true, decide_eq_true_eq, List.all_eq_true] at h
  obtain ⟨h1, ⟨_, h3⟩, ⟨_, h5⟩, h6⟩ := h
  unfold blockLs
  rw [finLs_of h6]
  refine CL.cons ?_ (CL.app (CL.map fun p hp => phi_clean (h3 p hp)) (CL.app (CL.flat fun i hi => instr_clean (h5 i hi)) (CL.cons (end_clean h6) CL.nil)))
  intro x hx
  simp only [List.mem_cons, List.not_mem_nil, or_false] at hx
  rcases hx with rfl | rfl
  · exact lit_clean _ (by decide)
  · exact name_clean h1
theorem func_clean {f : Api.Func} (h : funcR f = true) : CL (funcLs f) := by
  unfold funcR allR at h
  simp only [Bool.and_eq_true, decide_eq_true_eq, List.all_eq_true] at h
  obtain ⟨h1, h2, ⟨_, h4⟩, ⟨_, h6⟩, _, _, h10⟩ := h
  unfold funcLs
  refine CL.cons ?_ (CL.app (CL.map fun v hv => var_clean (h4 v hv) (lit_clean _ (by decide))) (CL.app (CL.map fun v hv => var_clean (h6 v hv) (lit_clean _ (by decide))) (CL.flat fun b hb => block_clean (h10 b hb))))
  intro x hx
  simp only [List.mem_cons, List.not_mem_nil, or_false] at hx
  rcases hx with rfl | rfl | rfl
  · exact lit_clean _ (by decide)
  · exact name_clean h1
  · exact kind_clean h2
theorem prog_clean {q : Prog} (h : progR q = true) : CL (progLs q) := by
  unfold progR allR at h
  simp only [Bool.and_eq_true, decide_eq_true_eq, List.all_eq_true] at h
  obtain ⟨⟨_, h2⟩, ⟨_, h4⟩, ⟨_, h6⟩, _, h8⟩ := h
  unfold progLs
  refine CL.app ?_ (CL.app (CL.flat fun c hc => ?_) (CL.app (CL.map fun v hv => var_clean (h4 v hv) (lit_clean _ (by decide))) (CL.app (CL.map fun e he => ?_) (CL.flat fun f hf => func_clean (h8 f hf)))))
  · split
    · refine CL.cons ?_ CL.nil
      intro x hx
      rw [List.mem_singleton] at hx
      subst hx
      exact lit_clean _ (by decide)
    · exact CL.nil
  · have := h2 c hc
    unfold classR allR at this
    simp only [Bool.and_eq_true, decide_eq_true_eq, List.all_eq_true] at this
    unfold classLs
    refine CL.cons ?_ (CL.map fun v hv => var_clean (this.2.2 v hv) (lit_clean _ (by decide)))
    intro x hx
    simp only [List.mem_cons, List.not_mem_nil, or_false] at hx
    rcases hx with rfl | rfl
    · exact lit_clean _ (by decide)
    · exact name_clean this.1
  · have := h6 e he
    unfold externR at this
    simp only [Bool.and_eq_true, decide_eq_true_eq] at this
    intro x hx
    simp only [externL, List.mem_cons, List.not_mem_nil, or_false] at hx
    rcases hx with rfl | rfl | rfl
    · exact lit_clean _ (by decide)
    · exact name_clean this.1
    · exact dec_clean _
/-- What is shown is read as what it was. -/
theorem text_there {q : Prog} (hR : progR q = true) (hI : progI q) (hw : wp q ≤ 4194304) : textE (joinV (progLs q)) = .ok q := by
  have hsp : splitV (joinV (progLs q)) = (number 1 (progLs q), 0, 0) := by
    refine split_of_go ?_ (by rw [join_wp]; exact hw)
    rw [go_join (progLs q) (fun ws hws => ⟨prog_ne q ws hws, prog_clean hR ws hws⟩) 1 []]
    rfl
  rw [textE_of hsp]
  obtain ⟨pl, lg, h1, h2⟩ := read_there hR hI
  exact parseE_ok.2 ⟨pl, lg, by rw [number_words]; exact h1, h2⟩
/-- What is read is right, and short. -/
theorem text_here {s : List UInt8} {q : Prog} (h : textE s = .ok q) : progR q = true ∧ progI q ∧ wp q ≤ 2 * s.length + 1 := by
  unfold textE at h
  split at h
  · cases h
  · rename_i hz
    obtain ⟨h1, h2, h3⟩ := read_back h
    refine ⟨h1, h2, ?_⟩
    have hz2 : (splitV s).2.2 = 0 := by simpa using hz
    have hs : splitV s = ((splitV s).1, (splitV s).2.1, 0) := by rw [← hz2]
    have hg := go_of_split hs
    have hm := go_len s 1 [] LS.init (splitV s).1 hg
    have hp := split_props hs
    have hne : ∀ ws ∈ (splitV s).1.map (fun x => x.2), ws ≠ [] := fun ws hw => (rise_clean (hp.1 rfl).2 ws hw).1
    rw [h3, ← join_wls hne]
    have e : (joinV ((([] : List Ln)).map fun x => x.2)).length + wlen LS.init.l + LS.init.w.length + 1 + 2 * s.length = 2 * s.length + 1 := by simp [joinV, wlen, LS.init]; omega
    omega
end Go.Proofs.YtkmndgjabkjafaaGreatDoor.Rd5

namespace Go.Proofs.YtkmndgjabkjafaaGreatDoor.Shell
open Go.ChangeShapes Go.WideShapes Go.ChangeAt Go.RowKit

/-- All arguments read in a world that has only grown as they read before. -/
theorem stay {H : Type} {enc : TypeId × Value → H} {P : Program} (hl : laidOutB P = true) {W W' : World} (hb : Below W.heap.size W W') :
    ∀ {ts : List TypeId} {vs : List Value} {ds : List (DataW H)} {ps : List MemPlace}, (∀ t ∈ ts, P.readableRec t = true ∧ t < P.types.size) → (∀ x ∈ ps, x.block < W.heap.size) →
      DataW.TrodAll enc P W 0 (fun _ => true) true ts vs ds ps → DataW.TrodAll enc P W' 0 (fun b => decide (b < W.heap.size)) true ts vs ds ps
  | [], [], [], _, _, _, h => h
  | [], _ :: _, _, _, _, _, h => h.elim
  | [], [], _ :: _, _, _, _, h => h.elim
  | _ :: _, [], _, _, _, _, h => h.elim
  | _ :: _, _ :: _, [], _, _, _, h => h.elim
  | t :: ts, v :: vs, d :: ds, ps, ht, hlt, h => by
    obtain ⟨p, q, h1, h2, e⟩ := h
    subst e
    have hp := ht t (by simp)
    exact ⟨p, q, Below.trod hl hp.1 hp.2 h1 hb (fun x hx => hlt x (by simp [hx])), stay hl hb (fun t' h' => ht t' (by simp [h'])) (fun x hx => hlt x (by simp [hx])) h2, rfl⟩

/-- The statement's post, of a law without named variables. -/
theorem lawPost {H : Type} {enc : TypeId × Value → H} {P : Program} (hl : laidOutB P = true) {f : Func} {s : ChangeSpec} {tb : TypeId} {W W' : World} {args : Array Value} {ds gs : List (DataW H)} {before : List MemPlace}
    (hv : s.vars = []) (ht : (f.params.toList.all fun t => P.readableRec t && decide (t < P.types.size)) = true) (hr : f.resultTypes = #[tb]) (htb : P.underlying tb = some .bool)
    (hW : DataW.Whole enc P f.params.toList s.vars false W args.toList ds gs before) (hfn : s.fn H ds = { results := [.lit (.bool true)], args := ds }) (hb : Below W.heap.size W W') :
    s.post enc P f false true false false W args (.bool true) W' := by
  have hlt : ∀ p ∈ before, p.block < W.heap.size := fun p hp => hW.lt p hp
  have hW' := hW
  obtain ⟨p, q, hA, hV, e, _, _⟩ := hW
  rw [hv] at hV
  obtain ⟨rfl, rfl⟩ := trodVars_none hV
  rw [List.append_nil] at e
  subst e
  refine ⟨ds, [], before, [], before, [], hW', ?_, ?_, ?_, hb.frame _, fun h => by cases h⟩
  · rw [List.append_nil, hfn, hr]
    exact trodAll_cons_mk (shut_bool htb true) trodAll_mk0
  · rw [List.append_nil, hfn]
    exact stay hl hb (fun t h' => by have := List.all_eq_true.1 ht t h'; simpa using this) hlt hA
  · rw [List.append_nil, hfn, hv]
    rfl

/-- The reach of a string among the arguments. -/
theorem reach_string {H : Type} {P : Program} {ts : List TypeId} {ds : List (DataW H)} (h : (DataW.weightsEach P ts ds).all (· ≤ reachBytes) = true) {j : Nat} {t : TypeId} {s : ByteArray} (ht : ts[j]? = some t) (hd : ds[j]? = some (.lit (.string s.data.toList))) : s.size ≤ 140737488351232 := by
  have h0 := sized_string h ht hd
  have e0 : s.data.toList.length = s.size := by rw [Array.length_toList]; rfl
  rw [e0] at h0
  exact h0

end Go.Proofs.YtkmndgjabkjafaaGreatDoor.Shell

namespace Go.Proofs.YtkmndgjabkjafaaGreatDoor.OpenP
open Go.ChangeShapes Go.WideShapes Go.ChangeAt Go.RowKit Go.Deep Api

theorem list_of {α : Type} {p : Nat → α → Prop} (n : Nat) (h : ∀ i, i < n → ∃ x, p i x) : ∃ xs : List α, xs.length = n ∧ ∀ i x, xs[i]? = some x → p i x := by
  induction n with
  | zero => exact ⟨[], rfl, fun i x h => by simp at h⟩
  | succ n ih =>
    obtain ⟨xs, hl, hx⟩ := ih fun i hi => h i (by omega)
    obtain ⟨y, hy⟩ := h n (by omega)
    refine ⟨xs ++ [y], by simp [hl], fun i x hi => ?_⟩
    rw [List.getElem?_append] at hi
    split at hi
    · exact hx i x hi
    · rename_i h1
      have h2 := (List.getElem?_eq_some_iff.1 hi).1
      simp only [List.length_singleton] at h2
      have h3 : i = n := by omega
      subst h3
      rw [hl, Nat.sub_self] at hi
      simp at hi
      subst hi
      exact hy
theorem addr_of {w : World} {a : Addr} {v : Value} (h : w.cell? (a.add 0) = some v) : ∃ b off, a = ⟨b, off, none⟩ ∧ b < w.heap.size := by
  obtain ⟨b, off, spot⟩ := a
  have e : (⟨b, off, spot⟩ : Addr).add 0 = ⟨b, off, spot⟩ := rfl
  rw [e] at h
  have hb := World.block_lt_of_cell? w _ h
  cases spot with
  | none => exact ⟨b, off, rfl, hb⟩
  | some x =>
    unfold World.cell? at h
    split at h
    · simp at h
    · cases h
variable {H : Type} {enc : TypeId × Value → H} {w : World}
abbrev Tr (enc : TypeId × Value → H) (w : World) (n : Nat) (t : TypeId) (cs : List Value) (x : DataW H × List MemPlace) : Prop := DataW.trod enc Tryz.prog w 0 (fun _ => true) true n t cs = some x
/-- no size in it is more than the reach. -/
def Wt (t : TypeId) (d : DataW H) : Prop := ∀ m ∈ d.weights Tryz.prog t, m ≤ reachBytes
theorem all_mem {e : TypeId} {l : List (DataW H)} {d : DataW H} (hd : d ∈ l) : ∀ m ∈ d.weights Tryz.prog e, m ∈ DataW.weightsAll Tryz.prog e l := by
  induction l with
  | nil => cases hd
  | cons x l ih =>
    intro m hm
    simp only [DataW.weightsAll, List.mem_append]
    rcases List.mem_cons.1 hd with rfl | hd
    · exact .inl hm
    · exact .inr (ih hd m hm)
theorem open_row {α : Type} {t e : TypeId} {size bts : Nat} {Q : List Value → α → Prop} {G : α → Prop} (ht : Tryz.prog.underlying t = some (.slice e)) (hc : Tryz.prog.cellsOf e = size) (hs : 0 < size) (hbt : Tryz.prog.bytesOf e = bts) (hb2 : 1 ≤ bts) {fuel : Nat} {v : Value} {x : DataW H × List MemPlace}
    (h : Tr enc w fuel t [v] x) (hw : Wt t x.1) (each : ∀ (n : Nat) (cs : List Value) (y : DataW H × List MemPlace), cs.length = size → Tr enc w n e cs y → Wt e y.1 → ∃ a : α, Q cs a ∧ G a) :
    ∃ xs : List α, Row 0 w.heap.size w size Q v xs ∧ ∀ a ∈ xs, G a := by
  rcases open_slice ht h with ⟨hcs, _⟩ | ⟨a, len, cap, m, n, D, Pl, hcs, _, hl, hm, hmm, hx, hall⟩
  · simp only [List.cons.injEq, and_true] at hcs
    subst hcs
    exact ⟨[], ⟨none, 0, 0, 0, 0, rfl, rfl, by omega, by omega, fun i x h => by simp at h⟩, by simp⟩
  · simp only [List.cons.injEq, and_true] at hcs
    subst hcs
    simp only [if_true] at hmm
    subst hmm
    subst hx
    rw [hc] at hall
    have hsz : len * bts ≤ reachBytes := by
      have h1 := hw ((len + (m - len)) * bts) (by simp [DataW.weights, ht, hbt])
      have : len ≤ len + (m - len) := by omega
      exact Nat.le_trans (Nat.mul_le_mul_right _ this) h1
    have hlen : len ≤ 4611686018427387903 := by
      have h2 : len * 1 ≤ len * bts := Nat.mul_le_mul_left _ hb2
      simp only [reachBytes] at hsz
      omega
    have hone : ∀ i, i < len → ∃ p : α × List Value, p.2.length = size ∧ (∀ j u, p.2[j]? = some u → w.cell? (a.add (i * size + j)) = some u) ∧ Q p.2 p.1 ∧ G p.1 := by
      intro i hi
      obtain ⟨cs', h1, h2⟩ := hall i (by omega)
      obtain ⟨_, hcl, hcell⟩ := World.cells?_some h1
      obtain ⟨y, hy, hg⟩ := each n cs' _ hcl h2 (fun q hq => hw q (by
        simp only [DataW.weights, ht]
        refine List.mem_cons_of_mem _ (List.mem_append_left _ (all_mem (d := D i) (List.mem_map.2 ⟨i, List.mem_range.2 hi, rfl⟩) q hq))))
      refine ⟨(y, cs'), hcl, fun j u hj => ?_, hy, hg⟩
      have hj2 : j < cs'.length := (List.getElem?_eq_some_iff.1 hj).1
      have := hcell j (by omega)
      rw [add_add] at this
      rw [this]
      exact hj
    obtain ⟨ps, hpl, hps⟩ := list_of len hone
    refine ⟨ps.map Prod.fst, ?_, ?_⟩
    · by_cases h0 : len = 0
      · subst h0
        have : ps = [] := List.eq_nil_of_length_eq_zero hpl
        subst this
        exact ⟨some a, 0, m, 0, 0, rfl, rfl, by omega, by omega, fun i x h => by simp at h⟩
      · obtain ⟨p0, hp0⟩ : ∃ p, ps[0]? = some p := ⟨_, List.getElem?_eq_getElem (by omega)⟩
        obtain ⟨q1, q2, _⟩ := hps 0 p0 hp0
        obtain ⟨u, hu⟩ : ∃ u, p0.2[0]? = some u := ⟨_, List.getElem?_eq_getElem (by omega)⟩
        obtain ⟨b, off, rfl, hb⟩ := addr_of (by have := q2 0 u hu; rwa [Nat.zero_mul] at this)
        refine ⟨_, len, m, b, off, rfl, by rw [List.length_map, hpl], ⟨hlen, hl⟩, fun _ => ⟨rfl, Nat.zero_le _, hb⟩, fun i x hx => ?_⟩
        rw [List.getElem?_map] at hx
        obtain ⟨p, hp, rfl⟩ := Option.map_eq_some_iff.1 hx
        obtain ⟨r1, r2, r3, _⟩ := hps i p hp
        refine ⟨p.2, r1, fun j u hj => ?_, r3⟩
        have := r2 j u hj
        rw [add_plain] at this
        rw [Nat.add_assoc]
        exact this
    · intro x hx
      obtain ⟨p, hp, rfl⟩ := List.mem_map.1 hx
      obtain ⟨i, hi, rfl⟩ := List.mem_iff_getElem.1 hp
      exact (hps i _ (List.getElem?_eq_getElem hi)).2.2.2
theorem open_fields {e : TypeId} {fs : Array Field} {n : Nat} {cs : List Value} {y : DataW H × List MemPlace} (he : Tryz.prog.underlying e = some (.struct fs)) (h : Tr enc w n e cs y) (hw : Wt e y.1) :
    ∃ n2, ∀ (i : Nat) (f : Field), fs[i]? = some f → ∃ z, Tr enc w n2 f.type ((cs.drop f.offset).take (Tryz.prog.cellsOf f.type)) z ∧ Wt f.type z.1 := by
  obtain ⟨xs, k, hk, hxy, _, hxl, hf⟩ := DataW.trod_struct he h
  refine ⟨k, fun i f hfi => ?_⟩
  have hi : i < xs.length := by rw [hxl]; exact (Array.getElem?_eq_some_iff.1 hfi).1
  refine ⟨xs[i], (hf i f hfi).trans (List.getElem?_eq_getElem hi), fun q hq => hw q ?_⟩
  rw [hxy]
  simp only [DataW.weights, he]
  refine DataW.weights_mem_each (j := i) (t := f.type) (d := xs[i].1) ?_ ?_ q hq
  · rw [List.getElem?_map, Array.getElem?_toList, hfi]; rfl
  · rw [List.getElem?_map, List.getElem?_eq_getElem hi]; rfl
theorem take_fix {n k off : Nat} {t : TypeId} {cs : List Value} {z : DataW H × List MemPlace} (h : Tr enc w n t ((cs.drop off).take (Tryz.prog.cellsOf t)) z) (hc : Tryz.prog.cellsOf t = k) : Tr enc w n t ((cs.drop off).take k) z := by
  rw [hc] at h; exact h
theorem c_int : Tryz.prog.cellsOf 3 = 1 := by kernel_rfl
theorem c_int64 : Tryz.prog.cellsOf 2 = 1 := by kernel_rfl
theorem c_str : Tryz.prog.cellsOf 9 = 1 := by kernel_rfl
theorem c_bool : Tryz.prog.cellsOf 4 = 1 := by kernel_rfl
theorem c_arg : Tryz.prog.cellsOf 42 = 3 := by kernel_rfl
theorem c_var : Tryz.prog.cellsOf 93 = 2 := by kernel_rfl
theorem c_ext : Tryz.prog.cellsOf 80 = 2 := by kernel_rfl
theorem c_bind : Tryz.prog.cellsOf 163 = 4 := by kernel_rfl
theorem c_in : Tryz.prog.cellsOf 133 = 4 := by kernel_rfl
theorem c_class : Tryz.prog.cellsOf 78 = 2 := by kernel_rfl
theorem c_frame : Tryz.prog.cellsOf 167 = 4 := by kernel_rfl
theorem c_virt : Tryz.prog.cellsOf 169 = 2 := by kernel_rfl
theorem c_instr : Tryz.prog.cellsOf 52 = 6 := by kernel_rfl
theorem c_phi : Tryz.prog.cellsOf 131 = 2 := by kernel_rfl
theorem c_term : Tryz.prog.cellsOf 45 = 6 := by kernel_rfl
theorem c_block : Tryz.prog.cellsOf 47 = 9 := by kernel_rfl
theorem c_func : Tryz.prog.cellsOf 38 = 5 := by kernel_rfl
theorem c_prog : Tryz.prog.cellsOf 27 = 5 := by kernel_rfl
theorem c_sl1 : Tryz.prog.cellsOf 48 = 1 := by kernel_rfl
theorem c_sl2 : Tryz.prog.cellsOf 23 = 1 := by kernel_rfl
theorem c_sl3 : Tryz.prog.cellsOf 159 = 1 := by kernel_rfl
theorem c_sl4 : Tryz.prog.cellsOf 129 = 1 := by kernel_rfl
theorem c_sl5 : Tryz.prog.cellsOf 49 = 1 := by kernel_rfl
theorem c_sl6 : Tryz.prog.cellsOf 50 = 1 := by kernel_rfl
theorem c_sl7 : Tryz.prog.cellsOf 43 = 1 := by kernel_rfl
theorem c_sl8 : Tryz.prog.cellsOf 39 = 1 := by kernel_rfl
theorem c_sl9 : Tryz.prog.cellsOf 40 = 1 := by kernel_rfl
theorem c_sl10 : Tryz.prog.cellsOf 36 = 1 := by kernel_rfl
theorem c_sl11 : Tryz.prog.cellsOf 22 = 1 := by kernel_rfl
theorem c_sl12 : Tryz.prog.cellsOf 24 = 1 := by kernel_rfl
theorem c_sl13 : Tryz.prog.cellsOf 25 = 1 := by kernel_rfl

/-! ### texts and numbers within bounds -/
def strG (x : Wd) : Prop := x.length ≤ 140737488351232
def argG (a : Arg) : Prop := (NumM.In a.kind ∧ NumM.In a.n) ∧ strG a.s
def varG (v : Var) : Prop := strG v.name ∧ strG v.type
def extG (e : Extern) : Prop := strG e.name ∧ NumM.In e.n
def bindG (b : Bind) : Prop := strG b.name ∧ argG b.a
def classG (c : Class) : Prop := strG c.name ∧ ∀ v ∈ c.fields, varG v
def frameG (f : Api.Frame) : Prop := (strG f.func ∧ strG f.block) ∧ NumM.In f.pos ∧ ∀ b ∈ f.vars, bindG b
def virtG (v : Virt) : Prop := strG v.cls ∧ ∀ a ∈ v.vals, argG a
def instrG (i : Instr) : Prop := (NumM.In i.op ∧ strG i.dst ∧ strG i.name) ∧ (∀ a ∈ i.args, argG a) ∧ (∀ f ∈ i.frames, frameG f) ∧ ∀ o ∈ i.objs, virtG o
def phiG (p : Phi) : Prop := strG p.dst ∧ ∀ b ∈ p.ins, bindG b
def termG (t : Api.Term) : Prop := NumM.In t.kind ∧ argG t.a ∧ (∀ x ∈ t.dest, strG x) ∧ NumM.In t.n
def blockG (b : Api.Block) : Prop := strG b.name ∧ (∀ p ∈ b.phis, phiG p) ∧ (∀ i ∈ b.code, instrG i) ∧ termG b.fin
def funcG (f : Api.Func) : Prop := (strG f.name ∧ strG f.result) ∧ (∀ v ∈ f.params, varG v) ∧ (∀ v ∈ f.vars, varG v) ∧ ∀ b ∈ f.blocks, blockG b
def progG (p : Prog) : Prop := (∀ c ∈ p.classes, classG c) ∧ (∀ v ∈ p.globals, varG v) ∧ (∀ e ∈ p.externs, extG e) ∧ ∀ f ∈ p.funcs, funcG f

theorem t_str {n : Nat} {c : Value} {z : DataW H × List MemPlace} (h : Tr enc w n 9 [c] z) (hw : Wt 9 z.1) : ∃ x : Wd, c = str x ∧ strG x := by
  obtain ⟨s, hs, hz, _⟩ := DataW.trod_string Tryz.underlying9 h
  simp only [List.cons.injEq, and_true] at hs
  refine ⟨s.data.toList, by rw [hs], ?_⟩
  have := hw s.data.toList.length (by rw [hz]; simp [DataW.weights])
  simp only [reachBytes] at this
  exact this
theorem t_int {n : Nat} {c : Value} {z : DataW H × List MemPlace} (h : Tr enc w n 3 [c] z) : ∃ k : Int, c = i64 k ∧ NumM.In k := by
  obtain ⟨k, hs, _, hwf⟩ := DataW.trod_int Tryz.underlying3 h
  simp only [List.cons.injEq, and_true] at hs
  exact ⟨k, hs, NumM.in_of_wf hwf⟩
theorem t_int64 {n : Nat} {c : Value} {z : DataW H × List MemPlace} (h : Tr enc w n 2 [c] z) : ∃ k : Int, c = i64 k ∧ NumM.In k := by
  obtain ⟨k, hs, _, hwf⟩ := DataW.trod_int Tryz.underlying2 h
  simp only [List.cons.injEq, and_true] at hs
  exact ⟨k, hs, NumM.in_of_wf hwf⟩
theorem two {cs : List Value} (h : cs.length = 2) : ∃ a b, cs = [a, b] := by match cs, h with | [a, b], _ => exact ⟨a, b, rfl⟩
theorem three {cs : List Value} (h : cs.length = 3) : ∃ a b c, cs = [a, b, c] := by match cs, h with | [a, b, c], _ => exact ⟨a, b, c, rfl⟩
theorem four {cs : List Value} (h : cs.length = 4) : ∃ a b c d, cs = [a, b, c, d] := by match cs, h with | [a, b, c, d], _ => exact ⟨a, b, c, d, rfl⟩
theorem five {cs : List Value} (h : cs.length = 5) : ∃ a b c d e, cs = [a, b, c, d, e] := by match cs, h with | [a, b, c, d, e], _ => exact ⟨a, b, c, d, e, rfl⟩
theorem six {cs : List Value} (h : cs.length = 6) : ∃ a b c d e f, cs = [a, b, c, d, e, f] := by match cs, h with | [a, b, c, d, e, f], _ => exact ⟨a, b, c, d, e, f, rfl⟩
theorem nine {cs : List Value} (h : cs.length = 9) : ∃ a b c d e f g i j, cs = [a, b, c, d, e, f, g, i, j] := by match cs, h with | [a, b, c, d, e, f, g, i, j], _ => exact ⟨a, b, c, d, e, f, g, i, j, rfl⟩

variable {n : Nat} {cs : List Value} {y : DataW H × List MemPlace}
theorem t_arg (hl : cs.length = 3) (h : Tr enc w n 42 cs y) (hw : Wt 42 y.1) : ∃ a : Arg, cs = argC a ∧ argG a := by
  obtain ⟨c0, c1, c2, rfl⟩ := three hl
  obtain ⟨n2, hf⟩ := open_fields Tryz.underlying42 h hw
  obtain ⟨z0, t0, w0⟩ := hf 0 _ rfl
  obtain ⟨z1, t1, w1⟩ := hf 1 _ rfl
  obtain ⟨z2, t2, w2⟩ := hf 2 _ rfl
  obtain ⟨k, rfl, hk⟩ := t_int (take_fix t0 c_int)
  obtain ⟨x, rfl, hx⟩ := t_str (take_fix t1 c_str) w1
  obtain ⟨m, rfl, hm⟩ := t_int64 (take_fix t2 c_int64)
  exact ⟨⟨k, x, m⟩, rfl, ⟨hk, hm⟩, hx⟩
theorem t_var (hl : cs.length = 2) (h : Tr enc w n 93 cs y) (hw : Wt 93 y.1) : ∃ a : Var, cs = varC a ∧ varG a := by
  obtain ⟨c0, c1, rfl⟩ := two hl
  obtain ⟨n2, hf⟩ := open_fields Tryz.underlying93 h hw
  obtain ⟨z0, t0, w0⟩ := hf 0 _ rfl
  obtain ⟨z1, t1, w1⟩ := hf 1 _ rfl
  obtain ⟨x, rfl, hx⟩ := t_str (take_fix t0 c_str) w0
  obtain ⟨x2, rfl, hx2⟩ := t_str (take_fix t1 c_str) w1
  exact ⟨⟨x, x2⟩, rfl, hx, hx2⟩
theorem t_ext (hl : cs.length = 2) (h : Tr enc w n 80 cs y) (hw : Wt 80 y.1) : ∃ a : Extern, cs = externC a ∧ extG a := by
  obtain ⟨c0, c1, rfl⟩ := two hl
  obtain ⟨n2, hf⟩ := open_fields Tryz.underlying80 h hw
  obtain ⟨z0, t0, w0⟩ := hf 0 _ rfl
  obtain ⟨z1, t1, w1⟩ := hf 1 _ rfl
  obtain ⟨x, rfl, hx⟩ := t_str (take_fix t0 c_str) w0
  obtain ⟨k, rfl, hk⟩ := t_int (take_fix t1 c_int)
  exact ⟨⟨x, k⟩, rfl, hx, hk⟩
theorem t_bind (hl : cs.length = 4) (h : Tr enc w n 163 cs y) (hw : Wt 163 y.1) : ∃ a : Bind, cs = bindC a ∧ bindG a := by
  obtain ⟨c0, c1, c2, c3, rfl⟩ := four hl
  obtain ⟨n2, hf⟩ := open_fields Tryz.underlying163 h hw
  obtain ⟨z0, t0, w0⟩ := hf 0 _ rfl
  obtain ⟨z1, t1, w1⟩ := hf 1 _ rfl
  obtain ⟨x, rfl, hx⟩ := t_str (take_fix t0 c_str) w0
  obtain ⟨a, ha, hg⟩ := t_arg (by rfl) (take_fix t1 c_arg) w1
  exact ⟨⟨x, a⟩, congrArg (str x :: ·) ha, hx, hg⟩
theorem t_in (hl : cs.length = 4) (h : Tr enc w n 133 cs y) (hw : Wt 133 y.1) : ∃ a : Bind, cs = bindC a ∧ bindG a := by
  obtain ⟨c0, c1, c2, c3, rfl⟩ := four hl
  obtain ⟨n2, hf⟩ := open_fields Tryz.underlying133 h hw
  obtain ⟨z0, t0, w0⟩ := hf 0 _ rfl
  obtain ⟨z1, t1, w1⟩ := hf 1 _ rfl
  obtain ⟨x, rfl, hx⟩ := t_str (take_fix t0 c_str) w0
  obtain ⟨a, ha, hg⟩ := t_arg (by rfl) (take_fix t1 c_arg) w1
  exact ⟨⟨x, a⟩, congrArg (str x :: ·) ha, hx, hg⟩
variable {v : Value}
theorem t_args (h : Tr enc w n 48 [v] y) (hw : Wt 48 y.1) : ∃ xs, Args 0 w.heap.size w v xs ∧ ∀ a ∈ xs, argG a :=
  open_row (bts := 32) Tryz.underlying48 c_arg (by decide) (by kernel_rfl) (by decide) h hw fun _ _ _ hl h hw => t_arg hl h hw
theorem t_vars (h : Tr enc w n 23 [v] y) (hw : Wt 23 y.1) : ∃ xs, Vars 0 w.heap.size w v xs ∧ ∀ a ∈ xs, varG a :=
  open_row (bts := 32) Tryz.underlying23 c_var (by decide) (by kernel_rfl) (by decide) h hw fun _ _ _ hl h hw => t_var hl h hw
theorem t_exts (h : Tr enc w n 24 [v] y) (hw : Wt 24 y.1) : ∃ xs, Externs 0 w.heap.size w v xs ∧ ∀ a ∈ xs, extG a :=
  open_row (bts := 24) Tryz.underlying24 c_ext (by decide) (by kernel_rfl) (by decide) h hw fun _ _ _ hl h hw => t_ext hl h hw
theorem t_binds (h : Tr enc w n 159 [v] y) (hw : Wt 159 y.1) : ∃ xs, Binds 0 w.heap.size w v xs ∧ ∀ a ∈ xs, bindG a :=
  open_row (bts := 48) Tryz.underlying159 c_bind (by decide) (by kernel_rfl) (by decide) h hw fun _ _ _ hl h hw => t_bind hl h hw
theorem t_ins (h : Tr enc w n 129 [v] y) (hw : Wt 129 y.1) : ∃ xs, Binds 0 w.heap.size w v xs ∧ ∀ a ∈ xs, bindG a :=
  open_row (bts := 48) Tryz.underlying129 c_in (by decide) (by kernel_rfl) (by decide) h hw fun _ _ _ hl h hw => t_in hl h hw
theorem t_texts (h : Tr enc w n 43 [v] y) (hw : Wt 43 y.1) : ∃ xs, Texts 0 w.heap.size w v xs ∧ ∀ a ∈ xs, strG a :=
  open_row (bts := 16) Tryz.underlying43 c_str (by decide) (by kernel_rfl) (by decide) h hw fun _ cs _ hl h hw => by
    match cs, hl with
    | [c], _ =>
      obtain ⟨x, rfl, hx⟩ := t_str h hw
      exact ⟨x, rfl, hx⟩
theorem t_class (hl : cs.length = 2) (h : Tr enc w n 78 cs y) (hw : Wt 78 y.1) : ∃ a : Class, ClassC 0 w.heap.size w cs a ∧ classG a := by
  obtain ⟨c0, c1, rfl⟩ := two hl
  obtain ⟨n2, hf⟩ := open_fields Tryz.underlying78 h hw
  obtain ⟨z0, t0, w0⟩ := hf 0 _ rfl
  obtain ⟨z1, t1, w1⟩ := hf 1 _ rfl
  obtain ⟨x, rfl, hx⟩ := t_str (take_fix t0 c_str) w0
  obtain ⟨l, hl, hg⟩ := t_vars (take_fix t1 c_sl2) w1
  exact ⟨⟨x, l⟩, ⟨_, rfl, hl⟩, hx, hg⟩
theorem t_frame (hl : cs.length = 4) (h : Tr enc w n 167 cs y) (hw : Wt 167 y.1) : ∃ a : Api.Frame, FrameC 0 w.heap.size w cs a ∧ frameG a := by
  obtain ⟨c0, c1, c2, c3, rfl⟩ := four hl
  obtain ⟨n2, hf⟩ := open_fields Tryz.underlying167 h hw
  obtain ⟨z0, t0, w0⟩ := hf 0 _ rfl
  obtain ⟨z1, t1, w1⟩ := hf 1 _ rfl
  obtain ⟨z2, t2, w2⟩ := hf 2 _ rfl
  obtain ⟨z3, t3, w3⟩ := hf 3 _ rfl
  obtain ⟨x, rfl, hx⟩ := t_str (take_fix t0 c_str) w0
  obtain ⟨x2, rfl, hx2⟩ := t_str (take_fix t1 c_str) w1
  obtain ⟨k, rfl, hk⟩ := t_int (take_fix t2 c_int)
  obtain ⟨l, hl, hg⟩ := t_binds (take_fix t3 c_sl3) w3
  exact ⟨⟨x, x2, k, l⟩, ⟨_, rfl, hl⟩, ⟨hx, hx2⟩, hk, hg⟩
theorem t_virt (hl : cs.length = 2) (h : Tr enc w n 169 cs y) (hw : Wt 169 y.1) : ∃ a : Virt, VirtC 0 w.heap.size w cs a ∧ virtG a := by
  obtain ⟨c0, c1, rfl⟩ := two hl
  obtain ⟨n2, hf⟩ := open_fields Tryz.underlying169 h hw
  obtain ⟨z0, t0, w0⟩ := hf 0 _ rfl
  obtain ⟨z1, t1, w1⟩ := hf 1 _ rfl
  obtain ⟨x, rfl, hx⟩ := t_str (take_fix t0 c_str) w0
  obtain ⟨l, hl, hg⟩ := t_args (take_fix t1 c_sl1) w1
  exact ⟨⟨x, l⟩, ⟨_, rfl, hl⟩, hx, hg⟩
theorem t_frames (h : Tr enc w n 49 [v] y) (hw : Wt 49 y.1) : ∃ xs, Frames 0 w.heap.size w v xs ∧ ∀ a ∈ xs, frameG a :=
  open_row (bts := 64) Tryz.underlying49 c_frame (by decide) (by kernel_rfl) (by decide) h hw fun _ _ _ hl h hw => t_frame hl h hw
theorem t_virts (h : Tr enc w n 50 [v] y) (hw : Wt 50 y.1) : ∃ xs, Virts 0 w.heap.size w v xs ∧ ∀ a ∈ xs, virtG a :=
  open_row (bts := 40) Tryz.underlying50 c_virt (by decide) (by kernel_rfl) (by decide) h hw fun _ _ _ hl h hw => t_virt hl h hw
theorem t_instr (hl : cs.length = 6) (h : Tr enc w n 52 cs y) (hw : Wt 52 y.1) : ∃ a : Instr, InstrC 0 w.heap.size w cs a ∧ instrG a := by
  obtain ⟨c0, c1, c2, c3, c4, c5, rfl⟩ := six hl
  obtain ⟨n2, hf⟩ := open_fields Tryz.underlying52 h hw
  obtain ⟨z0, t0, w0⟩ := hf 0 _ rfl
  obtain ⟨z1, t1, w1⟩ := hf 1 _ rfl
  obtain ⟨z2, t2, w2⟩ := hf 2 _ rfl
  obtain ⟨z3, t3, w3⟩ := hf 3 _ rfl
  obtain ⟨z4, t4, w4⟩ := hf 4 _ rfl
  obtain ⟨z5, t5, w5⟩ := hf 5 _ rfl
  obtain ⟨k, rfl, hk⟩ := t_int (take_fix t0 c_int)
  obtain ⟨x, rfl, hx⟩ := t_str (take_fix t1 c_str) w1
  obtain ⟨x2, rfl, hx2⟩ := t_str (take_fix t2 c_str) w2
  obtain ⟨l3, hl3, hg3⟩ := t_args (take_fix t3 c_sl1) w3
  obtain ⟨l4, hl4, hg4⟩ := t_frames (take_fix t4 c_sl5) w4
  obtain ⟨l5, hl5, hg5⟩ := t_virts (take_fix t5 c_sl6) w5
  exact ⟨⟨k, x, x2, l3, l4, l5⟩, ⟨_, _, _, rfl, hl3, hl4, hl5⟩, ⟨hk, hx, hx2⟩, hg3, hg4, hg5⟩
theorem t_phi (hl : cs.length = 2) (h : Tr enc w n 131 cs y) (hw : Wt 131 y.1) : ∃ a : Phi, PhiC 0 w.heap.size w cs a ∧ phiG a := by
  obtain ⟨c0, c1, rfl⟩ := two hl
  obtain ⟨n2, hf⟩ := open_fields Tryz.underlying131 h hw
  obtain ⟨z0, t0, w0⟩ := hf 0 _ rfl
  obtain ⟨z1, t1, w1⟩ := hf 1 _ rfl
  obtain ⟨x, rfl, hx⟩ := t_str (take_fix t0 c_str) w0
  obtain ⟨l, hl, hg⟩ := t_ins (take_fix t1 c_sl4) w1
  exact ⟨⟨x, l⟩, ⟨_, rfl, hl⟩, hx, hg⟩
theorem t_term (hl : cs.length = 6) (h : Tr enc w n 45 cs y) (hw : Wt 45 y.1) : ∃ a : Api.Term, TermC 0 w.heap.size w cs a ∧ termG a := by
  obtain ⟨c0, c1, c2, c3, c4, c5, rfl⟩ := six hl
  obtain ⟨n2, hf⟩ := open_fields Tryz.underlying45 h hw
  obtain ⟨z0, t0, w0⟩ := hf 0 _ rfl
  obtain ⟨z1, t1, w1⟩ := hf 1 _ rfl
  obtain ⟨z2, t2, w2⟩ := hf 2 _ rfl
  obtain ⟨z3, t3, w3⟩ := hf 3 _ rfl
  obtain ⟨k, rfl, hk⟩ := t_int (take_fix t0 c_int)
  obtain ⟨a, ha, hga⟩ := t_arg (by rfl) (take_fix t1 c_arg) w1
  obtain ⟨l, hll, hg⟩ := t_texts (take_fix t2 c_sl7) w2
  obtain ⟨m, rfl, hm⟩ := t_int64 (take_fix t3 c_int64)
  have ha2 : [c1, c2, c3] = [i64 a.kind, str a.s, i64 a.n] := ha
  simp only [List.cons.injEq, and_true] at ha2
  obtain ⟨rfl, rfl, rfl⟩ := ha2
  exact ⟨⟨k, a, l, m⟩, ⟨_, rfl, hll⟩, hk, hga, hg, hm⟩
theorem t_instrs (h : Tr enc w n 40 [v] y) (hw : Wt 40 y.1) : ∃ xs, Instrs 0 w.heap.size w v xs ∧ ∀ a ∈ xs, instrG a :=
  open_row (bts := 112) Tryz.underlying40 c_instr (by decide) (by kernel_rfl) (by decide) h hw fun _ _ _ hl h hw => t_instr hl h hw
theorem t_phis (h : Tr enc w n 39 [v] y) (hw : Wt 39 y.1) : ∃ xs, Phis 0 w.heap.size w v xs ∧ ∀ a ∈ xs, phiG a :=
  open_row (bts := 40) Tryz.underlying39 c_phi (by decide) (by kernel_rfl) (by decide) h hw fun _ _ _ hl h hw => t_phi hl h hw
theorem t_block (hl : cs.length = 9) (h : Tr enc w n 47 cs y) (hw : Wt 47 y.1) : ∃ a : Api.Block, BlockC 0 w.heap.size w cs a ∧ blockG a := by
  obtain ⟨c0, c1, c2, c3, c4, c5, c6, c7, c8, rfl⟩ := nine hl
  obtain ⟨n2, hf⟩ := open_fields Tryz.underlying47 h hw
  obtain ⟨z0, t0, w0⟩ := hf 0 _ rfl
  obtain ⟨z1, t1, w1⟩ := hf 1 _ rfl
  obtain ⟨z2, t2, w2⟩ := hf 2 _ rfl
  obtain ⟨z3, t3, w3⟩ := hf 3 _ rfl
  obtain ⟨x, rfl, hx⟩ := t_str (take_fix t0 c_str) w0
  obtain ⟨l1, hl1, hg1⟩ := t_phis (take_fix t1 c_sl8) w1
  obtain ⟨l2, hl2, hg2⟩ := t_instrs (take_fix t2 c_sl9) w2
  obtain ⟨a, ha, hga⟩ := t_term (by rfl) (take_fix t3 c_term) w3
  exact ⟨⟨x, l1, l2, a⟩, ⟨_, _, _, rfl, hl1, hl2, ha⟩, hx, hg1, hg2, hga⟩
theorem t_blocks (h : Tr enc w n 36 [v] y) (hw : Wt 36 y.1) : ∃ xs, Blocks 0 w.heap.size w v xs ∧ ∀ a ∈ xs, blockG a :=
  open_row (bts := 136) Tryz.underlying36 c_block (by decide) (by kernel_rfl) (by decide) h hw fun _ _ _ hl h hw => t_block hl h hw
theorem t_func (hl : cs.length = 5) (h : Tr enc w n 38 cs y) (hw : Wt 38 y.1) : ∃ a : Api.Func, FuncC 0 w.heap.size w cs a ∧ funcG a := by
  obtain ⟨c0, c1, c2, c3, c4, rfl⟩ := five hl
  obtain ⟨n2, hf⟩ := open_fields Tryz.underlying38 h hw
  obtain ⟨z0, t0, w0⟩ := hf 0 _ rfl
  obtain ⟨z1, t1, w1⟩ := hf 1 _ rfl
  obtain ⟨z2, t2, w2⟩ := hf 2 _ rfl
  obtain ⟨z3, t3, w3⟩ := hf 3 _ rfl
  obtain ⟨z4, t4, w4⟩ := hf 4 _ rfl
  obtain ⟨x, rfl, hx⟩ := t_str (take_fix t0 c_str) w0
  obtain ⟨x2, rfl, hx2⟩ := t_str (take_fix t1 c_str) w1
  obtain ⟨l2, hl2, hg2⟩ := t_vars (take_fix t2 c_sl2) w2
  obtain ⟨l3, hl3, hg3⟩ := t_vars (take_fix t3 c_sl2) w3
  obtain ⟨l4, hl4, hg4⟩ := t_blocks (take_fix t4 c_sl10) w4
  exact ⟨⟨x, x2, l2, l3, l4⟩, ⟨_, _, _, rfl, hl2, hl3, hl4⟩, ⟨hx, hx2⟩, hg2, hg3, hg4⟩
theorem t_classes (h : Tr enc w n 22 [v] y) (hw : Wt 22 y.1) : ∃ xs, Classes 0 w.heap.size w v xs ∧ ∀ a ∈ xs, classG a :=
  open_row (bts := 40) Tryz.underlying22 c_class (by decide) (by kernel_rfl) (by decide) h hw fun _ _ _ hl h hw => t_class hl h hw
theorem t_funcs (h : Tr enc w n 25 [v] y) (hw : Wt 25 y.1) : ∃ xs, Funcs 0 w.heap.size w v xs ∧ ∀ a ∈ xs, funcG a :=
  open_row (bts := 104) Tryz.underlying25 c_func (by decide) (by kernel_rfl) (by decide) h hw fun _ _ _ hl h hw => t_func hl h hw
theorem t_prog (hl : cs.length = 5) (h : Tr enc w n 27 cs y) (hw : Wt 27 y.1) : ∃ a : Prog, ProgC 0 w.heap.size w cs a ∧ progG a := by
  obtain ⟨c0, c1, c2, c3, c4, rfl⟩ := five hl
  obtain ⟨n2, hf⟩ := open_fields Tryz.underlying27 h hw
  obtain ⟨z0, t0, w0⟩ := hf 0 _ rfl
  obtain ⟨z1, t1, w1⟩ := hf 1 _ rfl
  obtain ⟨z2, t2, w2⟩ := hf 2 _ rfl
  obtain ⟨z3, t3, w3⟩ := hf 3 _ rfl
  obtain ⟨z4, t4, w4⟩ := hf 4 _ rfl
  obtain ⟨b, hb, _⟩ := DataW.trod_bool Tryz.underlying4 (take_fix t0 c_bool)
  have hb2 : [c0] = [.bool b] := hb
  simp only [List.cons.injEq, and_true] at hb2
  subst hb2
  obtain ⟨l1, hl1, hg1⟩ := t_classes (take_fix t1 c_sl11) w1
  obtain ⟨l2, hl2, hg2⟩ := t_vars (take_fix t2 c_sl2) w2
  obtain ⟨l3, hl3, hg3⟩ := t_exts (take_fix t3 c_sl12) w3
  obtain ⟨l4, hl4, hg4⟩ := t_funcs (take_fix t4 c_sl13) w4
  exact ⟨⟨b, l1, l2, l3, l4⟩, ⟨_, _, _, _, rfl, hl1, hl2, hl3, hl4⟩, hg1, hg2, hg3, hg4⟩
set_option maxRecDepth 100000 in
/-- A program as an argument. -/
theorem open_prog {ts : List TypeId} {ds : List (DataW H)} (hsz : (DataW.weightsEach Tryz.prog ts ds).all (· ≤ reachBytes) = true) {j : Nat} {v : Value} {d : DataW H} {p : List MemPlace} (ht : ts[j]? = some 27) (hd : ds[j]? = some d)
    {base : Nat} {r : Reach} (hval : Value.okWide Tryz.prog w r base 27 v) (h : DataW.Trod enc Tryz.prog w 0 (fun _ => true) true 27 v d p) : ∃ q : Prog × List Value, v = .agg q.2.toArray ∧ ProgC 0 w.heap.size w q.2 q.1 ∧ progG q.1 := by
  obtain ⟨cs, rfl, hs⟩ := okWide_struct Tryz.underlying27 hval
  obtain ⟨fuel, h⟩ := h
  have hw : Wt 27 d := fun m hm => by
    have := List.all_eq_true.1 hsz m (DataW.weights_mem_each ht hd m hm)
    simpa using this
  obtain ⟨q, h1, h2⟩ := t_prog (cs := cs.toList) (by rw [Array.length_toList, hs]; exact c_prog) (show Tr enc w fuel 27 cs.toList (d, p) from h) hw
  exact ⟨(q, cs.toList), by simp, h1, h2⟩
end Go.Proofs.YtkmndgjabkjafaaGreatDoor.OpenP

namespace Go.Proofs.YtkmndgjabkjafaaGreatDoor.Cv6
open Go.RowKit Api Mem Few6 OpenP

theorem instr_s {x : Instr} (h : instrG x) : instrS x := ⟨h.1.2, (fun a ha => (h.2.1 a ha).2), (fun f hf => ⟨(h.2.2.1 f hf).1.1, (h.2.2.1 f hf).1.2, fun b hb => ⟨((h.2.2.1 f hf).2.2 b hb).1, (((h.2.2.1 f hf).2.2 b hb).2).2⟩⟩), fun o ho => ⟨(h.2.2.2 o ho).1, fun a ha => ((h.2.2.2 o ho).2 a ha).2⟩⟩
theorem block_s {b : Api.Block} (h : blockG b) : blockS b := ⟨⟨h.1, h.2.2.2.2.1.2⟩, h.2.2.2.2.2.1, (fun p hp => ⟨(h.2.1 p hp).1, fun b hb => ⟨((h.2.1 p hp).2 b hb).1, (((h.2.1 p hp).2 b hb).2).2⟩⟩), fun i hi => instr_s (h.2.2.1 i hi)⟩
theorem func_s {f : Api.Func} (h : funcG f) : funcS f := ⟨h.1, h.2.1, h.2.2.1, fun b hb => block_s (h.2.2.2 b hb)⟩
theorem prog_s {p : Prog} (h : progG p) : progS p := ⟨h.1, h.2.1, (fun e he => (h.2.2.1 e he).1), fun f hf => func_s (h.2.2.2 f hf)⟩
theorem instr_i {x : Instr} (h : instrG x) : Rd5.instrI x := ⟨(fun a ha => (h.2.1 a ha).1.2), (fun f hf b hb => (((h.2.2.1 f hf).2.2 b hb).2).1.2), fun o ho a ha => ((h.2.2.2 o ho).2 a ha).1.2⟩
theorem prog_i {p : Prog} (h : progG p) : Rd5.progI p := fun f hf b hb =>
  have g := (h.2.2.2 f hf).2.2.2 b hb
  ⟨(fun q hq b hb => (((g.2.1 q hq).2 b hb).2).1.2), (fun i hi => instr_i (g.2.2.1 i hi)), g.2.2.2.2.1.1.2, g.2.2.2.2.2.2⟩
theorem prog_e {p : Prog} (h : progG p) : ∀ e ∈ p.externs, NumM.In e.n := fun e he => (h.2.2.1 e he).2
theorem bd_few {p : Prog} (h : fewB 20000 p = true) : ∀ f ∈ p.funcs, Sh6.Bd f := by
  unfold fewB at h
  simp only [Bool.and_eq_true, decide_eq_true_eq] at h
  obtain ⟨_, _, _, h4⟩ := h
  intro f hf
  have h5 := sum_mem cFunc hf
  unfold cProg at h4
  have h6 := sum_len cBlock f.blocks (fun x => by unfold cBlock; omega)
  have h7 : sumOf cBlock f.blocks ≤ cFunc f := by unfold cFunc; omega
  refine ⟨by omega, fun b hb => ?_⟩
  have h8 := sum_mem cBlock hb
  have h9 := sum_len cPhi b.phis (fun x => by unfold cPhi; omega)
  have h10 := sum_len cInstr b.code (fun x => by unfold cInstr; omega)
  have h11 : sumOf cPhi b.phis + sumOf cInstr b.code ≤ cBlock b := by unfold cBlock; omega
  omega
theorem bd_right {p : Prog} (h : Rd5.progR p = true) : ∀ f ∈ p.funcs, Sh6.Bd f := by
  unfold Rd5.progR Rd5.allR at h
  simp only [Bool.and_eq_true, decide_eq_true_eq, List.all_eq_true] at h
  intro f hf
  have := h.2.2.2.2 f hf
  unfold Rd5.funcR Rd5.allR at this
  simp only [Bool.and_eq_true, decide_eq_true_eq, List.all_eq_true] at this
  obtain ⟨_, _, _, _, _, h5, h6⟩ := this
  refine ⟨by omega, fun b hb => ?_⟩
  have := h6 b hb
  unfold Rd5.blockR Rd5.allR at this
  simp only [Bool.and_eq_true, decide_eq_true_eq, List.all_eq_true] at this
  omega
theorem ext_right {p : Prog} (h : Rd5.progR p = true) : ∀ e ∈ p.externs, NumM.In e.n := by
  unfold Rd5.progR Rd5.allR at h
  simp only [Bool.and_eq_true, decide_eq_true_eq, List.all_eq_true] at h
  intro e he
  have := h.2.2.1.2 e he
  unfold Rd5.externR at this
  simp only [Bool.and_eq_true, decide_eq_true_eq] at this
  unfold NumM.In
  omega
end Go.Proofs.YtkmndgjabkjafaaGreatDoor.Cv6
