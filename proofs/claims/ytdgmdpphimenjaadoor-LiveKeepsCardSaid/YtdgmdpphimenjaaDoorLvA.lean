/-
  LvSet LvUse LvRise LvMem LvTell LvNeed LvBack LvColl LpRound LvBegin LvLink
-/
import Derived.Test.YtdgmdpphimenjaaDoorShMap
import Derived.Sort.KeysCollected
import Derived.Maps.RangeWalk
import Derived.RangeFuncOwn
import Derived.Lib.Hide
import Derived.Lib.Walk
import Derived.Deep.RegionHeld3
import Derived.Deep.RegionLaw
import Derived.Shelf.SlIter.Nil
import Derived.Shelf.SortM.Plain
import Derived.Shelf.SortM.SortNone
import Derived.Ground.GgzProg
import Derived.Ground.SlgmProg
import Derived.Test.YtdgmdpphimenjaaDoorCallsN
import Derived.Test.YtdgmdpphimenjaaDoorShCome
import Derived.Test.YtdgmdpphimenjaaDoorHold
import Derived.RangeFuncNested
import Derived.RangeFuncBound
import Derived.RangeFuncCalls
import Derived.RangeFuncLeaves
import Derived.RangeFuncBox
import Derived.Shelf.Abstract
import Derived.Shelf.RegionOpen
import Derived.WalkKit
import Derived.OwnWalkIn
import Derived.TacticsInMore
import Derived.LoopNIn
import Derived.LoopIn
import Derived.Shelf.SlMaps.Clone
import Derived.Ground.SlmcProg
import Derived.StillTailTactics
import Derived.Test.YtdgmdpphimenjaaDoorMem
import Derived.RangeFuncWrites
import Derived.Test.YtdgmdpphimenjaaDoorShPlaces
/-
  Layer 12: sets of names, as maps that are written in place.
-/
namespace Go.Proofs.YtdgmdpphimenjaaDoor.Lv12
open Go.RowKit Api Mem Sh8 Go.Maps

theorem sub_len : ∀ {a b : List Wd}, a.Nodup → (∀ x ∈ a, x ∈ b) → a.length ≤ b.length
  | [], b, _, _ => Nat.zero_le _
  | x :: r, b, hn, hs => by
    obtain ⟨h1, h2⟩ := List.nodup_cons.1 hn
    have := sub_len (a := r) (b := b.erase x) h2 (fun y hy => (List.mem_erase_of_ne (fun (e : y = x) => h1 (by rw [← e]; exact hy))).2 (hs y (by simp [hy])))
    rw [List.length_erase_of_mem (hs x (by simp))] at this
    have h3 := List.length_pos_of_mem (hs x (by simp))
    simp only [List.length_cons]
    omega
/-- names whose lengths, and whose number, are small. -/
structure UOk (U : List Wd) : Prop where
  len : U.length ≤ 1000000000000
  nm : ∀ x ∈ U, x.length ≤ 140737488351232
theorem own_size {H : Type} {P : Program} {k : TypeId} {R : Value → Option (DataW H × List MemPlace)} {w : World} {b n : Nat} {D : DataW H} (h : w.ownsMap P k R b n D) : w.ownsMap P k R b (size D) D := by
  obtain ⟨es, clock, hb, F, hs, rfl⟩ := h
  exact ⟨es, clock, hb, F, by simp [Maps.size, length_sorted], rfl⟩
theorem own_keys {H : Type} {P : Program} {k : TypeId} {R : Value → Option (DataW H × List MemPlace)} {w : World} {b n : Nat} {D : DataW H} (K : Keyed P k) (hk : P.underlying k = some .string) (h : w.ownsMap P k R b n D) : (strKeys D).Nodup ∧ (∀ x, x ∈ strKeys D ↔ has D (.string x) = true) ∧ size D = (strKeys D).length := by
  obtain ⟨es, hD, hpw, _⟩ := h.entries K
  obtain ⟨es', hD', hko⟩ := h.keysOf
  obtain rfl : es = es' := by rw [hD] at hD'; simpa using hD'
  subst hD
  have hk2 : ∀ p ∈ es, ∃ x, p.1 = Lit.string x := fun p hp => by
    obtain ⟨v, hv⟩ := hko p hp
    obtain ⟨x, _, hx, _⟩ := Maps.keyOf_str hk hv
    exact ⟨x, hx⟩
  refine ⟨?_, fun x => ?_, by simp [Maps.size, strKeys]⟩
  · show (es.map fun p => strOf p.1).Nodup
    refine List.pairwise_map.2 (hpw.imp_of_mem fun {p q} hp' hq' hne e => hne ?_)
    obtain ⟨a, ha⟩ := hk2 p hp'
    obtain ⟨b, hb⟩ := hk2 q hq'
    rw [ha, hb] at e ⊢
    exact congrArg _ e
  · rw [has_eq, List.any_eq_true]
    show (x ∈ es.map fun p => strOf p.1) ↔ _
    rw [List.mem_map]
    constructor
    · rintro ⟨p, hp', rfl⟩
      obtain ⟨a, ha⟩ := hk2 p hp'
      exact ⟨p, hp', by rw [ha]; simp [Lit.sameKey, strOf]⟩
    · rintro ⟨p, hp', hs⟩
      obtain ⟨a, ha⟩ := hk2 p hp'
      rw [ha] at hs
      exact ⟨p, hp', by rw [ha]; simpa [Lit.sameKey, strOf] using hs⟩
/-- Block g is a map whose keys are the names of S, all of them among U. -/
def SetO (U : List Wd) (w : World) (g : Nat) (S : Wd → Bool) : Prop :=
  (∃ D : DataW Unit, w.ownsMap Tryd.prog 9 unitElem g (size D) D ∧ ∀ x, has D (kS x) = S x) ∧ ∀ x, S x = true → x ∈ U
section
variable {U : List Wd} {w w' : World} {g : Nat} {S : Wd → Bool}
theorem SetO.lt (h : SetO U w g S) : g < w.heap.size := by
  obtain ⟨⟨D, h, _⟩, _⟩ := h
  exact h.lt
theorem SetO.grown (h : SetO U w g S) {row : Option Nat} (hg : w.grownBy w' row) (hne : some g ≠ row) : SetO U w' g S := by
  obtain ⟨⟨D, h, h2⟩, h3⟩ := h
  exact ⟨⟨D, h.kept hg hne, h2⟩, h3⟩
theorem SetO.alloc (h : SetO U w g S) (o : Obj) : SetO U (w.alloc o) g S := h.grown (World.grownBy_alloc w o none) (by simp)
theorem SetO.drew (h : SetO U w g S) : SetO U w.drew g S := h
theorem SetO.setCell (h : SetO U w g S) {a : Addr} (ha : g ≠ a.block) (u : Value) : SetO U (w.setCell a u) g S := by
  obtain ⟨⟨D, h, h2⟩, h3⟩ := h
  exact ⟨⟨D, h.setCell ha u, h2⟩, h3⟩
theorem SetO.block (h : SetO U w g S) (hk : w'.heap[g]? = w.heap[g]?) : SetO U w' g S := by
  obtain ⟨⟨D, ⟨es, clock, h1, r⟩, h2⟩, h3⟩ := h
  exact ⟨⟨D, ⟨es, clock, hk.trans h1, r⟩, h2⟩, h3⟩
theorem SetO.below {B : Nat} (h : SetO U w g S) (hb : Below B w w') (hg : g < B) : SetO U w' g S := h.block (hb.block g hg)
theorem SetO.made (U : List Wd) (w : World) : SetO U (w.alloc (.map #[] 0)) w.heap.size (fun _ => false) :=
  ⟨⟨.map [], own_size (World.ownsMap_made (H := Unit) w Tryd.prog 9 unitElem), fun _ => rfl⟩, fun _ h => by cases h⟩
theorem SetO.same {S' : Wd → Bool} (h : SetO U w g S) (e : ∀ x, S x = S' x) : SetO U w g S' := by
  obtain rfl : S = S' := funext e
  exact h
/-- it is no row. -/
theorem SetO.noCells (h : SetO U w g S) : ∃ o : Obj, w.heap[g]? = some o ∧ o.isCells = false := by
  obtain ⟨⟨D, ⟨es, clock, h1, r⟩, h2⟩, h3⟩ := h
  exact ⟨_, h1, rfl⟩
theorem SetO.keys (h : SetO U w g S) : ∃ D : DataW Unit, w.ownsMap Tryd.prog 9 unitElem g (size D) D ∧ (∀ x, has D (kS x) = S x) ∧ (strKeys D).Nodup ∧ (∀ x, x ∈ strKeys D ↔ S x = true) ∧ size D = (strKeys D).length ∧ size D ≤ U.length := by
  obtain ⟨⟨D, h1, h2⟩, h3⟩ := h
  obtain ⟨k1, k2, k3⟩ := own_keys lawS Tryd.underlying9 h1
  have k4 : ∀ x, x ∈ strKeys D ↔ S x = true := fun x => by rw [k2 x, ← h2 x]
  exact ⟨D, h1, h2, k1, k4, k3, by rw [k3]; exact sub_len k1 fun x hx => h3 x ((k4 x).1 hx)⟩
end
def addS (S : Wd → Bool) (x : Wd) (y : Wd) : Bool := S y || decide (y = x)
def delS (S : Wd → Bool) (x : Wd) (y : Wd) : Bool := S y && !decide (y = x)
def orS (S : Wd → Bool) (l : List Wd) (y : Wd) : Bool := S y || decide (y ∈ l)
theorem orS_nil (S : Wd → Bool) : orS S [] = S := funext fun y => by simp [orS]
theorem orS_snoc (S : Wd → Bool) (l : List Wd) (x : Wd) : addS (orS S l) x = orS S (l ++ [x]) := funext fun y => by simp [orS, addS, Bool.or_assoc]
theorem orS_app (S : Wd → Bool) (l r : List Wd) : orS (orS S l) r = orS S (l ++ r) := funext fun y => by simp [orS, Bool.or_assoc]
theorem has_at {P : Program} {t k e : TypeId} (K : Keyed P k) (ht : P.underlying t = some (.map k e)) {w : World} (hz : (zeroValue e).run P w = .ok (.agg #[]) w) {b n : Nat} {D : DataW Unit} (h : w.ownsMap P k unitElem b n D) {key : Value} {kl : Lit} (hkey : keyOf P k key = some kl) {d : Bool} (hd : has D kl = d) :
    (Instr.lookup t (.map (some b)) key true).run P w = .ok (.tuple #[.agg #[], .bool d]) w := by
  obtain ⟨v, ps, h1, h2⟩ := h.look_ok K ht hz unitElem_mk hkey
  obtain ⟨rfl, _⟩ := unitElem_inv h2
  rw [h1, hd]
theorem drop_at {P : Program} {t k e : TypeId} (K : Keyed P k) (ht : P.underlying t = some (.map k e)) {U : List Wd} {w : World} {b n : Nat} {D : DataW Unit} (h : w.ownsMap P k unitElem b n D) {key : Value} {kl : Lit} (hkey : keyOf P k key = some kl) (ty : TypeId) :
    ∃ w', (Builtin.delete_ #[t, k] ty #[.map (some b), key]).run P w = .ok (.tuple #[]) w' ∧ w'.ownsMap P k unitElem b n (D.del kl) ∧ w.mapTurned w' b := h.drop K ht hkey ty

set_option maxRecDepth 100000 in
set_option maxHeartbeats 4000000 in
theorem has_any {U : List Wd} {w : World} {g : Nat} {S : Wd → Bool} (h : SetO U w g S) (x : Wd) (hx : x.length ≤ 140737488351232) :
    Calls Tryd.prog 87 #[.map (some g), str x] w fun e w' => e = .returned (.bool (S x)) ∧ w.grownBy w' none := by
  obtain ⟨D, h1, h2, _⟩ := h.keys
  have hl := has_at lawS Tryd.underlying94 (zeroU w) h1 (key_at hx) (h2 x)
  obtain ⟨b, hb⟩ : ∃ b, S x = b := ⟨_, rfl⟩
  rw [hb] at hl
  rw [hb]
  clear h h1 h2 hb
  go_enter Tryd.func87, Tryd.ntmps87
  go_wp2_with fail
  go_ret
  exact ⟨rfl, World.grownBy_alloc w _ none⟩
set_option maxRecDepth 100000 in
set_option maxHeartbeats 4000000 in
theorem add_any {U : List Wd} (hU : UOk U) {w : World} {g : Nat} {S : Wd → Bool} (h : SetO U w g S) (x : Wd) (hx : x ∈ U) :
    Calls Tryd.prog 88 #[.map (some g), str x] w fun e w' => e = .returned (.tuple #[]) ∧ SetO U w' g (addS S x) ∧ w.grownBy w' (some g) := by
  obtain ⟨D, h1, h2, _, _, _, h6⟩ := h.keys
  have hkey := key_at (hU.nm x hx)
  have hn : size D < maxLen := by have := hU.len; unfold maxLen; omega
  have H1 := Lib.hid h1
  have HS := Lib.hid (fun (w' : World) (n : Nat) (ho : w'.ownsMap Tryd.prog 9 unitElem g n (D.put (kS x) (.agg []))) => (show SetO U w' g (addS S x) from ⟨⟨_, own_size ho, fun y => by
    unfold addS
    by_cases e : y = x
    · subst e
      rw [has_put_same (h1.tidy lawS).isMap (keyS _)]
      simp
    · rw [has_put_other (kS_ne e), h2]
      simp [e]⟩, fun y hy => by
    unfold addS at hy
    rw [Bool.or_eq_true, decide_eq_true_iff] at hy
    rcases hy with hy | rfl
    · exact h.2 y hy
    · exact hx⟩))
  clear h h1 h2 h6
  go_enter Tryd.func88, Tryd.ntmps88
  go_wp2_with (first | (at_mapUpdate; refine wpList_mapUpdate_own _ rfl _ _ _ 94 rfl 9 150 lawS Tryd.underlying94 _ g _ _ rfl H1.out hn _ _ _ rfl rfl hkey _ [] unitElem_mk ?_; intro w9 hown9 hg9; have HO9 := Lib.hid (HS.out w9 _ hown9); have HB9 := Lib.hid hg9; clear hown9 hg9) | go_in)
  go_end0
  exact ⟨rfl, HO9.out, HB9.out⟩
end Go.Proofs.YtdgmdpphimenjaaDoor.Lv12

/-
  Layer 12: what an instruction and an end use, laid into a set.
-/
namespace Go.Proofs.YtdgmdpphimenjaaDoor.Lv12
open Go.RowKit Api Mem Sh8 Go.Maps

def namesA (l : List Arg) : List Wd := (l.filter fun a => decide (a.kind = 1)).map (·.s)
def namesB (l : List Bind) : List Wd := namesA (l.map (·.a))
def namesF (l : List Api.Frame) : List Wd := l.flatMap fun f => namesB f.vars
def namesO (l : List Virt) : List Wd := l.flatMap fun o => namesA o.vals
/-- what an instruction uses. -/
def usesI (x : Instr) : List Wd := namesA x.args ++ (namesF x.frames ++ namesO x.objs)
/-- what an end uses. -/
def usesT (t : Term) : List Wd := if t.kind = 2 ∨ t.kind = 3 then namesA [t.a] else []
theorem take_at {α : Type} {l : List α} {k : Nat} {x : α} (h : l[k]? = some x) : l.take (k + 1) = l.take k ++ [x] := by
  obtain ⟨h1, h2⟩ := List.getElem?_eq_some_iff.1 h
  rw [List.take_succ_eq_append_getElem h1, h2]
theorem namesA_app (l r : List Arg) : namesA (l ++ r) = namesA l ++ namesA r := by simp [namesA]
theorem namesA_next {l : List Arg} {k : Nat} {x : Arg} (h : l[k]? = some x) : namesA (l.take (k + 1)) = namesA (l.take k) ++ namesA [x] := by rw [take_at h, namesA_app]
theorem namesB_next {l : List Bind} {k : Nat} {x : Bind} (h : l[k]? = some x) : namesB (l.take (k + 1)) = namesB (l.take k) ++ namesA [x.a] := by
  unfold namesB
  rw [take_at h, List.map_append, namesA_app]
  rfl
theorem namesF_next {l : List Api.Frame} {k : Nat} {x : Api.Frame} (h : l[k]? = some x) : namesF (l.take (k + 1)) = namesF (l.take k) ++ namesB x.vars := by
  unfold namesF
  rw [take_at h, List.flatMap_append]
  simp
theorem namesO_next {l : List Virt} {k : Nat} {x : Virt} (h : l[k]? = some x) : namesO (l.take (k + 1)) = namesO (l.take k) ++ namesA x.vals := by
  unfold namesO
  rw [take_at h, List.flatMap_append]
  simp
theorem namesA_mem {l : List Arg} {x : Arg} (h : x ∈ l) : ∀ y ∈ namesA [x], y ∈ namesA l := by
  intro y hy
  unfold namesA at *
  rw [List.mem_map] at *
  obtain ⟨a, ha, e⟩ := hy
  rw [List.mem_filter] at ha
  obtain ⟨h1, h2⟩ := ha
  rw [List.mem_singleton] at h1
  subst h1
  exact ⟨a, List.mem_filter.2 ⟨h, h2⟩, e⟩
/-- what a call leaves that writes the set g alone. -/
def Put (U : List Wd) (w : World) (g : Nat) (S : Wd → Bool) (e : Ending) (w' : World) : Prop := e = .returned (.tuple #[]) ∧ SetO U w' g S ∧ w.grownBy w' (some g)
theorem grown_refl (w : World) (row : Option Nat) : w.grownBy w row := ⟨rfl, rfl, rfl, Nat.le_refl _, fun _ _ _ => rfl⟩
theorem grown_trans {a b c : World} {g : Nat} (h : a.grownBy b (some g)) (k : b.grownBy c (some g)) : a.grownBy c (some g) := h.andThen k fun j e => .inr e
theorem grown_but {a b : World} (h : a.grownBy b none) (row : Option Nat) : a.grownBy b row := ⟨h.os, h.tape, h.output, h.size, fun i hi _ => h.block i hi (by simp)⟩
set_option maxRecDepth 100000 in
set_option maxHeartbeats 4000000 in
theorem use_any {U : List Wd} (hU : UOk U) {w : World} {g : Nat} {S : Wd → Bool} (h : SetO U w g S) (a : Arg) (hx : ∀ x ∈ namesA [a], x ∈ U) :
    Calls Tryd.prog 93 #[.map (some g), .agg #[i64 a.kind, str a.s, i64 a.n]] w (Put U w g (orS S (namesA [a]))) := by
  by_cases hk : a.kind = 1
  · have e0 : (a.kind == 1) = true := by simpa using hk
    have en : namesA [a] = [a.s] := by simp [namesA, hk]
    have HS : orS S (namesA [a]) = addS S a.s := by rw [en]; exact funext fun y => by simp [orS, addS]
    rw [HS]
    have hin := hx a.s (by rw [en]; simp)
    have HA := Lib.hid (fun (w1 : World) (h1 : SetO U w1 g S) => add_any hU h1 a.s hin)
    have HG := Lib.hid (fun o => (show SetO U (w.alloc o) g S from h.alloc o))
    clear hk en hx HS h hin
    go_enter Tryd.func93, Tryd.ntmps93
    go_wp2_with fail
    refine (HA.out _ (HG.out _)).mono ?_
    rintro e w5 ⟨rfl, h5, g5⟩
    have H5 := Lib.hid h5
    have G5 := Lib.hid (grown_trans (World.grownBy_alloc w _ (some g)) g5)
    clear h5 g5
    go_wp2_with fail
    go_end0
    exact ⟨rfl, H5.out, G5.out⟩
  · have e0 : (a.kind == 1) = false := by simpa using hk
    have en : namesA [a] = [] := by simp [namesA, hk]
    rw [en, orS_nil]
    have HG := Lib.hid h
    clear hk en hx h
    go_enter Tryd.func93, Tryd.ntmps93
    go_wp2_with fail
    go_end0
    exact ⟨rfl, HG.out.alloc _, World.grownBy_alloc w _ (some g)⟩
theorem own_kept {W W' : World} {b g : Nat} {t : TypeId} {cs : List Value} (h : Mem.Own W b t cs) (hg : W.grownBy W' (some g)) (hne : b ≠ g) : Mem.Own W' b t cs := (hg.block b h.lt (by simpa using hne)).trans h
theorem still_g {w w' : World} {lo hi g : Nat} (h : w.grownBy w' (some g)) (hh : hi ≤ w.heap.size) (hg : hi ≤ g) : Still lo hi lo hi w w' := ⟨fun k _ hk => h.block k (by omega) (fun e => by simp only [Option.some.injEq] at e; omega), Nat.le_refl _, Nat.le_refl _⟩
/-- the cells of one thing of a row. -/
theorem row_at {α : Type} {lo hi : Nat} {w : World} {size n cap k : Nat} {A : Option Addr} {P : List Value → α → Prop} {l : List α} {x : α} (h : Row lo hi w size P (.slice A n cap) l) (hx : l[k]? = some x) : ∃ b o, A = some ⟨b, o, none⟩ ∧ b < hi ∧ ∃ cs, cs.length = size ∧ (∀ j u, cs[j]? = some u → w.cell? ⟨b, o + k * size + j, none⟩ = some u) ∧ P cs x := by
  obtain ⟨b, off, hn, hm, ha, hc⟩ := h.get
  have hi := (List.getElem?_eq_some_iff.1 hx).1
  obtain ⟨e, h1, h2⟩ := ha (by omega)
  exact ⟨b, off, e, h2, hc k x hx⟩
theorem cells_g {w w' : World} {hi g b k : Nat} {cs : List Value} (h : w.grownBy w' (some g)) (hh : hi ≤ w.heap.size) (hg : hi ≤ g) (hb : b < hi) (hc : ∀ j u, cs[j]? = some u → w.cell? ⟨b, k + j, none⟩ = some u) : ∀ j u, cs[j]? = some u → w'.cell? ⟨b, k + j, none⟩ = some u :=
  fun j u hj => (World.cell?_of_block (w := w) (h.block b (by omega) (fun e => by simp only [Option.some.injEq] at e; omega))).trans (hc j u hj)
theorem usesI_args {x : Instr} {y : Wd} (h : y ∈ namesA x.args) : y ∈ usesI x := List.mem_append_left _ h
theorem usesI_frames {x : Instr} {f : Api.Frame} (hf : f ∈ x.frames) {y : Wd} (h : y ∈ namesB f.vars) : y ∈ usesI x := List.mem_append_right _ (List.mem_append_left _ (List.mem_flatMap.2 ⟨f, hf, h⟩))
theorem usesI_objs {x : Instr} {f : Virt} (hf : f ∈ x.objs) {y : Wd} (h : y ∈ namesA f.vals) : y ∈ usesI x := List.mem_append_right _ (List.mem_append_right _ (List.mem_flatMap.2 ⟨f, hf, h⟩))
theorem orS_more (S : Wd → Bool) (l r m : List Wd) (e : m = l ++ r) : orS (orS S l) r = orS S m := by rw [e, orS_app]
set_option maxRecDepth 100000 in
set_option maxHeartbeats 8000000 in
theorem useAll_any {U : List Wd} (hU : UOk U) (lo hi : Nat) {w : World} {g : Nat} {S : Wd → Bool} (h : SetO U w g S) (cs : List Value) (x : Instr) (hc : InstrC lo hi w cs x) (hh : hi ≤ w.heap.size) (hg : hi ≤ g) (hx : ∀ y ∈ usesI x, y ∈ U) :
    Calls Tryd.prog 90 #[.map (some g), .agg cs.toArray] w (Put U w g (orS S (usesI x))) := by
  obtain ⟨v1, v2, v3, rfl, h1, h2, h3⟩ := hc
  obtain ⟨A1, k1, rfl⟩ := Row.form h1
  obtain ⟨A2, k2, rfl⟩ := Row.form h2
  obtain ⟨A3, k3, rfl⟩ := Row.form h3
  have hl1 : x.args.length ≤ 4611686018427387903 := by obtain ⟨_, _, _, h, _⟩ := Row.get h1; exact h
  have hl2 : x.frames.length ≤ 4611686018427387903 := by obtain ⟨_, _, _, h, _⟩ := Row.get h2; exact h
  have hl3 : x.objs.length ≤ 4611686018427387903 := by obtain ⟨_, _, _, h, _⟩ := Row.get h3; exact h
  have H1 := Lib.hid h1
  have H2 := Lib.hid h2
  have H3 := Lib.hid h3
  have HX := Lib.hid hx
  have HS0 := Lib.hid (h.alloc (.cells #[i64 x.op, str x.dst, str x.name, .slice A1 x.args.length k1, .slice A2 x.frames.length k2, .slice A3 x.objs.length k3] 72))
  have HL := Lib.hid h.lt
  clear h1 h2 h3 hx h
  go_enter Tryd.func90, Tryd.ntmps90
  go_wp2_with fail
  have HB0 := Lib.hid (Mem.Own.made w 72 [i64 x.op, str x.dst, str x.name, .slice A1 x.args.length k1, .slice A2 x.frames.length k2, .slice A3 x.objs.length k3])
  have HG0 := Lib.hid (World.grownBy_alloc w (.cells #[i64 x.op, str x.dst, str x.name, .slice A1 x.args.length k1, .slice A2 x.frames.length k2, .slice A3 x.objs.length k3] 72) (some g))
  go_loopw [16] (fun i wr => ∃ k : Nat, k ≤ x.args.length ∧ i = .int .i64 k ∧ Hid (SetO U wr g (orS S (namesA (x.args.take k)))) ∧ Hid (Mem.Own wr w.heap.size 72 [i64 x.op, str x.dst, str x.name, .slice A1 x.args.length k1, .slice A2 x.frames.length k2, .slice A3 x.objs.length k3]) ∧ Hid (w.grownBy wr (some g))) (fun i _ => x.args.length - (intOf i).toNat)
  case atStart => exact ⟨0, Nat.zero_le _, rfl, Lib.hid (by rw [show namesA (x.args.take 0) = [] from rfl, orS_nil]; exact HS0.out), HB0, HG0⟩
  case round =>
  obtain ⟨k, hk, rfl, HS, HB, HG⟩ := hrel
  by_cases hlt : k < x.args.length
  · obtain ⟨y, hy⟩ : ∃ y, x.args[k]? = some y := ⟨_, List.getElem?_eq_getElem hlt⟩
    have q := row_at (Args.move (still_g HG.out hh hg) H1.out) hy
    obtain ⟨b, o, rfl, hb, cs, hcl, hcs, rfl⟩ := q
    obtain ⟨c0, c1, c2⟩ := at3 hcs
    have HQ := Lib.hid (fun (w1 : World) (h1 : SetO U w1 g (orS S (namesA (x.args.take k)))) => use_any hU h1 y (fun z hz => HX.out z (usesI_args (namesA_mem (List.mem_of_getElem? hy) z hz))))
    have HN := Lib.hid (namesA_next hy)
    clear hy hcs hcl
    go_wp2_with fail
    have HL5 := Lib.hid (HS.out.alloc (.cells #[i64 y.kind, str y.s, i64 y.n] 44))
    refine (HQ.out _ HL5.out).mono ?_
    rintro e w5 ⟨rfl, h5, g5⟩
    have G5 := Lib.hid (grown_trans (World.grownBy_alloc wr _ (some g)) g5)
    have H5 := Lib.hid h5
    clear h5 g5
    go_wp2_with fail
    go_roundw
    case rel => exact ⟨k + 1, by omega, by go_num, Lib.hid (H5.out.same fun z => by rw [orS_app, HN.out]), Lib.hid (own_kept HB.out G5.out (by have := HL.out; omega)), Lib.hid (grown_trans HG.out G5.out)⟩
    case measure => simp [intOf]; omega
  · obtain rfl : k = x.args.length := by omega
    have HS1 := Lib.hid (show SetO U wr g (orS S (namesA x.args)) by have := HS.out; rwa [List.take_length] at this)
    have HS1' := Lib.hid (show SetO U wr g (orS (orS S (namesA x.args)) (namesF (x.frames.take 0))) from by rw [show namesF (x.frames.take 0) = [] from rfl, orS_nil]; exact HS1.out)
    have n4 := (HB.out.cell 4).trans rfl
    have n5 := (HB.out.cell 5).trans rfl
    clear HS
    go_wp2_with fail
    go_loopw [27] (fun i wr => ∃ k : Nat, k ≤ x.frames.length ∧ i = .int .i64 k ∧ Hid (SetO U wr g (orS (orS S (namesA x.args)) (namesF (x.frames.take k)))) ∧ Hid (Mem.Own wr w.heap.size 72 [i64 x.op, str x.dst, str x.name, .slice A1 x.args.length k1, .slice A2 x.frames.length k2, .slice A3 x.objs.length k3]) ∧ Hid (w.grownBy wr (some g))) (fun i _ => x.frames.length - (intOf i).toNat)
    case atStart => exact ⟨0, Nat.zero_le _, rfl, HS1', HB, HG⟩
    case round =>
    clear n4 n5 HS1 HS1' HB HG
    obtain ⟨k, hk, rfl, HS, HB, HG⟩ := hrel
    by_cases hlt : k < x.frames.length
    · obtain ⟨y, hy⟩ : ∃ y, x.frames[k]? = some y := ⟨_, List.getElem?_eq_getElem hlt⟩
      obtain ⟨b, o, rfl, hb, cs, hcl, hcs, u, rfl, hbi⟩ := row_at H2.out hy
      obtain ⟨c0, c1, c2, c3⟩ := at4 (cells_g HG.out hh hg hb hcs)
      obtain ⟨A4, k4, rfl⟩ := Row.form hbi
      have hl4 : y.vars.length ≤ 4611686018427387903 := by obtain ⟨_, _, _, h, _⟩ := Row.get hbi; exact h
      have HBI := Lib.hid hbi
      have HY := Lib.hid hy
      have n4 := (HB.out.cell 4).trans rfl
      have HS2 := Lib.hid (show SetO U wr g (orS (orS (orS S (namesA x.args)) (namesF (x.frames.take k))) (namesB (y.vars.take 0))) from by rw [show namesB (y.vars.take 0) = [] from rfl, orS_nil]; exact HS.out)
      clear hy hcs hcl hbi
      go_wp2_with fail
      go_loopw [37] (fun i wr => ∃ j : Nat, j ≤ y.vars.length ∧ i = .int .i64 j ∧ Hid (SetO U wr g (orS (orS (orS S (namesA x.args)) (namesF (x.frames.take k))) (namesB (y.vars.take j)))) ∧ Hid (Mem.Own wr w.heap.size 72 [i64 x.op, str x.dst, str x.name, .slice A1 x.args.length k1, .slice (some ⟨b, o, none⟩) x.frames.length k2, .slice A3 x.objs.length k3]) ∧ Hid (w.grownBy wr (some g))) (fun i _ => y.vars.length - (intOf i).toNat)
      case atStart => exact ⟨0, Nat.zero_le _, rfl, HS2, HB, HG⟩
      case round =>
      clear HS2 HS HB HG n4 c0 c1 c2 c3
      obtain ⟨j, hj, rfl, HS3, HB, HG⟩ := hrel
      by_cases hlj : j < y.vars.length
      · obtain ⟨z, hz⟩ : ∃ z, y.vars[j]? = some z := ⟨_, List.getElem?_eq_getElem hlj⟩
        obtain ⟨b4, o4, rfl, hb4, cs, hcl, hcs, rfl⟩ := row_at HBI.out hz
        obtain ⟨m0, m1, m2, m3⟩ := at4 (cells_g HG.out hh hg hb4 hcs)
        have HQ := Lib.hid (fun (w1 : World) (h1 : SetO U w1 g (orS (orS (orS S (namesA x.args)) (namesF (x.frames.take k))) (namesB (y.vars.take j)))) => use_any hU h1 z.a (fun z' hz' => HX.out z' (usesI_frames (List.mem_of_getElem? HY.out) (namesA_mem (List.mem_map.2 ⟨z, List.mem_of_getElem? hz, rfl⟩) z' hz'))))
        have HN := Lib.hid (namesB_next hz)
        have HL5 := Lib.hid (HS3.out.alloc (.cells #[str z.name, i64 z.a.kind, str z.a.s, i64 z.a.n] 111))
        have HG5 := Lib.hid (World.grownBy_alloc wr (.cells #[str z.name, i64 z.a.kind, str z.a.s, i64 z.a.n] 111) (some g))
        clear hz hcs hcl
        go_wp2_with fail
        refine (HQ.out _ HL5.out).mono ?_
        rintro e w5 ⟨rfl, h5, g5⟩
        have G5 := Lib.hid (grown_trans HG5.out g5)
        have H5 := Lib.hid h5
        clear h5 g5
        go_wp2_with fail
        go_roundw
        case rel => exact ⟨j + 1, by omega, by go_num, Lib.hid (H5.out.same fun z => by rw [orS_app, HN.out]), Lib.hid (own_kept HB.out G5.out (by have := HL.out; omega)), Lib.hid (grown_trans HG.out G5.out)⟩
        case measure => simp [intOf]; omega
      · obtain rfl : j = y.vars.length := by omega
        have HS4 := Lib.hid (show SetO U wr g (orS (orS S (namesA x.args)) (namesF (x.frames.take (k + 1)))) by
          have h := HS3.out
          rw [List.take_length] at h
          exact h.same fun z => by rw [namesF_next HY.out, ← orS_app])
        clear HS3
        go_wp2_with fail
        go_roundw
        case rel => exact ⟨k + 1, by omega, by go_num, HS4, HB, HG⟩
        case measure => simp [intOf]; omega
    · obtain rfl : k = x.frames.length := by omega
      have HS1 := Lib.hid (show SetO U wr g (orS (orS S (namesA x.args)) (namesF x.frames)) by have := HS.out; rwa [List.take_length] at this)
      have HS1' := Lib.hid (show SetO U wr g (orS (orS (orS S (namesA x.args)) (namesF x.frames)) (namesO (x.objs.take 0))) from by rw [show namesO (x.objs.take 0) = [] from rfl, orS_nil]; exact HS1.out)
      have n5 := (HB.out.cell 5).trans rfl
      clear HS
      go_wp2_with fail
      go_loopw [50] (fun i wr => ∃ k : Nat, k ≤ x.objs.length ∧ i = .int .i64 k ∧ Hid (SetO U wr g (orS (orS (orS S (namesA x.args)) (namesF x.frames)) (namesO (x.objs.take k)))) ∧ Hid (Mem.Own wr w.heap.size 72 [i64 x.op, str x.dst, str x.name, .slice A1 x.args.length k1, .slice A2 x.frames.length k2, .slice A3 x.objs.length k3]) ∧ Hid (w.grownBy wr (some g))) (fun i _ => x.objs.length - (intOf i).toNat)
      case atStart => exact ⟨0, Nat.zero_le _, rfl, HS1', HB, HG⟩
      case round =>
      clear n5 HS1 HS1' HB HG
      obtain ⟨k, hk, rfl, HS, HB, HG⟩ := hrel
      by_cases hlt : k < x.objs.length
      · obtain ⟨y, hy⟩ : ∃ y, x.objs[k]? = some y := ⟨_, List.getElem?_eq_getElem hlt⟩
        obtain ⟨b, o, rfl, hb, cs, hcl, hcs, u, rfl, hbi⟩ := row_at H3.out hy
        obtain ⟨c0, c1⟩ := at2 (cells_g HG.out hh hg hb hcs)
        obtain ⟨A4, k4, rfl⟩ := Row.form hbi
        have hl4 : y.vals.length ≤ 4611686018427387903 := by obtain ⟨_, _, _, h, _⟩ := Row.get hbi; exact h
        have HBI := Lib.hid hbi
        have HY := Lib.hid hy
        have HS2 := Lib.hid (show SetO U (wr.alloc (.cells #[str y.cls, .slice A4 y.vals.length k4] 113)) g (orS (orS (orS (orS S (namesA x.args)) (namesF x.frames)) (namesO (x.objs.take k))) (namesA (y.vals.take 0))) from by rw [show namesA (y.vals.take 0) = [] from rfl, orS_nil]; exact HS.out.alloc _)
        have HG2 := Lib.hid (grown_trans HG.out (World.grownBy_alloc wr (.cells #[str y.cls, .slice A4 y.vals.length k4] 113) (some g)))
        have HB2 := Lib.hid (HB.out.alloc (.cells #[str y.cls, .slice A4 y.vals.length k4] 113))
        clear hy hcs hcl hbi
        go_wp2_with fail
        go_loopw [57] (fun i wr => ∃ j : Nat, j ≤ y.vals.length ∧ i = .int .i64 j ∧ Hid (SetO U wr g (orS (orS (orS (orS S (namesA x.args)) (namesF x.frames)) (namesO (x.objs.take k))) (namesA (y.vals.take j)))) ∧ Hid (Mem.Own wr w.heap.size 72 [i64 x.op, str x.dst, str x.name, .slice A1 x.args.length k1, .slice A2 x.frames.length k2, .slice (some ⟨b, o, none⟩) x.objs.length k3]) ∧ Hid (w.grownBy wr (some g))) (fun i _ => y.vals.length - (intOf i).toNat)
        case atStart => exact ⟨0, Nat.zero_le _, rfl, HS2, HB2, HG2⟩
        case round =>
        clear HS2 HS HB HG HB2 HG2 c0 c1
        obtain ⟨j, hj, rfl, HS3, HB, HG⟩ := hrel
        by_cases hlj : j < y.vals.length
        · obtain ⟨z, hz⟩ : ∃ z, y.vals[j]? = some z := ⟨_, List.getElem?_eq_getElem hlj⟩
          obtain ⟨b4, o4, rfl, hb4, cs, hcl, hcs, rfl⟩ := row_at HBI.out hz
          obtain ⟨m0, m1, m2⟩ := at3 (cells_g HG.out hh hg hb4 hcs)
          have HQ := Lib.hid (fun (w1 : World) (h1 : SetO U w1 g (orS (orS (orS (orS S (namesA x.args)) (namesF x.frames)) (namesO (x.objs.take k))) (namesA (y.vals.take j)))) => use_any hU h1 z (fun z' hz' => HX.out z' (usesI_objs (List.mem_of_getElem? HY.out) (namesA_mem (List.mem_of_getElem? hz) z' hz'))))
          have HN := Lib.hid (namesA_next hz)
          have HL5 := Lib.hid (HS3.out.alloc (.cells #[i64 z.kind, str z.s, i64 z.n] 44))
          have HG5 := Lib.hid (World.grownBy_alloc wr (.cells #[i64 z.kind, str z.s, i64 z.n] 44) (some g))
          clear hz hcs hcl
          go_wp2_with fail
          refine (HQ.out _ HL5.out).mono ?_
          rintro e w5 ⟨rfl, h5, g5⟩
          have G5 := Lib.hid (grown_trans HG5.out g5)
          have H5 := Lib.hid h5
          clear h5 g5
          go_wp2_with fail
          go_roundw
          case rel => exact ⟨j + 1, by omega, by go_num, Lib.hid (H5.out.same fun z => by rw [orS_app, HN.out]), Lib.hid (own_kept HB.out G5.out (by have := HL.out; omega)), Lib.hid (grown_trans HG.out G5.out)⟩
          case measure => simp [intOf]; omega
        · obtain rfl : j = y.vals.length := by omega
          have HS4 := Lib.hid (show SetO U wr g (orS (orS (orS S (namesA x.args)) (namesF x.frames)) (namesO (x.objs.take (k + 1)))) by
            have h := HS3.out
            rw [List.take_length] at h
            exact h.same fun z => by rw [namesO_next HY.out, ← orS_app])
          clear HS3
          go_wp2_with fail
          go_roundw
          case rel => exact ⟨k + 1, by omega, by go_num, HS4, HB, HG⟩
          case measure => simp [intOf]; omega
      · obtain rfl : k = x.objs.length := by omega
        have HS1 := Lib.hid (show SetO U wr g (orS (orS (orS S (namesA x.args)) (namesF x.frames)) (namesO x.objs)) by have := HS.out; rwa [List.take_length] at this)
        clear HS
        go_wp2_with fail
        go_end0
        exact ⟨rfl, HS1.out.same fun z => (by rw [orS_app, orS_app]; simp [usesI]), HG.out⟩
set_option maxRecDepth 100000 in
set_option maxHeartbeats 4000000 in
theorem useEnd_any {U : List Wd} (hU : UOk U) {w : World} {g : Nat} {S : Wd → Bool} (h : SetO U w g S) (t : Term) (v : Value) (hx : ∀ x ∈ usesT t, x ∈ U) :
    Calls Tryd.prog 94 #[.map (some g), .agg #[i64 t.kind, i64 t.a.kind, str t.a.s, i64 t.a.n, v, i64 t.n]] w (Put U w g (orS S (usesT t))) := by
  by_cases hk : t.kind = 2 ∨ t.kind = 3
  · have en : usesT t = namesA [t.a] := by unfold usesT; rw [if_pos hk]
    rw [en] at hx
    rw [en]
    have HA := Lib.hid (fun (w1 : World) (h1 : SetO U w1 g S) => use_any hU h1 t.a hx)
    have HG := Lib.hid (fun o => (show SetO U (w.alloc o) g S from h.alloc o))
    clear en hx h
    go_enter Tryd.func94, Tryd.ntmps94
    rcases hk with hk | hk
    · have e1 : (t.kind == 2) = true := by simpa using hk
      have e2 : (t.kind == 3) = false := by simp; omega
      clear hk
      go_wp2_with fail
      refine (HA.out _ (HG.out _)).mono ?_
      rintro e w5 ⟨rfl, h5, g5⟩
      have H5 := Lib.hid h5
      have G5 := Lib.hid (grown_trans (World.grownBy_alloc w _ (some g)) g5)
      clear h5 g5
      go_wp2_with fail
      go_end0
      exact ⟨rfl, H5.out, G5.out⟩
    · have e1 : (t.kind == 2) = false := by simp; omega
      have e2 : (t.kind == 3) = true := by simpa using hk
      clear hk
      go_wp2_with fail
      refine (HA.out _ (HG.out _)).mono ?_
      rintro e w5 ⟨rfl, h5, g5⟩
      have H5 := Lib.hid h5
      have G5 := Lib.hid (grown_trans (World.grownBy_alloc w _ (some g)) g5)
      clear h5 g5
      go_wp2_with fail
      go_end0
      exact ⟨rfl, H5.out, G5.out⟩
  · have en : usesT t = [] := by unfold usesT; rw [if_neg hk]
    rw [en, orS_nil]
    have e1 : (t.kind == 2) = false := by simp; omega
    have e2 : (t.kind == 3) = false := by simp; omega
    have HG := Lib.hid h
    clear hk en hx h
    go_enter Tryd.func94, Tryd.ntmps94
    go_wp2_with fail
    go_end0
    exact ⟨rfl, HG.out.alloc _, World.grownBy_alloc w _ (some g)⟩
theorem del_set {U : List Wd} {w w9 : World} {g n : Nat} {S : Wd → Bool} {D : DataW Unit} {x : Wd} (h : SetO U w g S) (h2 : ∀ x, has D (kS x) = S x) (ho : w9.ownsMap Tryd.prog 9 unitElem g n (D.del (kS x))) : SetO U w9 g (delS S x) := by
  refine ⟨⟨_, own_size ho, fun y => ?_⟩, fun y hy => ?_⟩
  · unfold delS
    by_cases e : y = x
    · subst e
      rw [has_del_same]
      simp
    · rw [has_del_other (kS_ne e), h2]
      simp [e]
  · unfold delS at hy
    rw [Bool.and_eq_true] at hy
    exact h.2 y hy.1
/-- what goBack leaves. -/
def backI (x : Instr) (S : Wd → Bool) : Wd → Bool := orS (if x.dst = [] then S else delS S x.dst) (usesI x)
set_option maxRecDepth 100000 in
set_option maxHeartbeats 4000000 in
theorem goBack_any {U : List Wd} (hU : UOk U) (lo hi : Nat) {w : World} {g : Nat} {S : Wd → Bool} (h : SetO U w g S) (cs : List Value) (x : Instr) (hc : InstrC lo hi w cs x) (hh : hi ≤ w.heap.size) (hg : hi ≤ g) (hx : ∀ y ∈ usesI x, y ∈ U) (hd : x.dst.length ≤ 140737488351232) :
    Calls Tryd.prog 59 #[.map (some g), .agg cs.toArray] w (Put U w g (backI x S)) := by
  have HC := Lib.hid hc
  obtain ⟨v1, v2, v3, rfl, h1, h2, h3⟩ := hc
  clear h1 h2 h3
  have HU := Lib.hid (fun (w1 : World) (S1 : Wd → Bool) (g1 : w.grownBy w1 (some g)) (hs : SetO U w1 g S1) => useAll_any hU lo hi hs _ x (InstrC.move (still_g g1 hh hg) HC.out) (Nat.le_trans hh g1.size) hg hx)
  by_cases hk : x.dst = []
  · have e1 : (!x.dst.isEmpty) = false := by rw [hk]; rfl
    have HS := Lib.hid h
    unfold backI
    rw [if_pos hk]
    clear h hx hd hk
    go_enter Tryd.func59, Tryd.ntmps59
    go_wp2_with fail
    refine (HU.out _ S (World.grownBy_alloc w _ (some g)) (HS.out.alloc _)).mono ?_
    rintro e w5 ⟨rfl, h5, g5⟩
    have H5 := Lib.hid h5
    have G5 := Lib.hid (grown_trans (World.grownBy_alloc w _ (some g)) g5)
    clear h5 g5
    go_wp2_with fail
    go_end0
    exact ⟨rfl, H5.out, G5.out⟩
  · have e1 : (!x.dst.isEmpty) = true := by cases hx2 : x.dst with
      | nil => exact absurd hx2 hk
      | cons => rfl
    obtain ⟨D, h1, h2, _⟩ := h.keys
    obtain ⟨w9, hrun, ho9, ht9⟩ := drop_at (U := U) lawS Tryd.underlying94 (h1.alloc (.cells #[i64 x.op, str x.dst, str x.name, v1, v2, v3] 72)) (key_at hd) 0
    have HS9 := Lib.hid (del_set h h2 ho9)
    have HG9 := Lib.hid (grown_trans (World.grownBy_alloc w _ (some g)) ht9.grown)
    have hbx := own_kept (Mem.Own.made w 72 [i64 x.op, str x.dst, str x.name, v1, v2, v3]) ht9.grown (by have := h.lt; omega)
    have n0 := (hbx.cell 0).trans rfl
    have n1 := (hbx.cell 1).trans rfl
    have n2 := (hbx.cell 2).trans rfl
    have n3 := (hbx.cell 3).trans rfl
    have n4 := (hbx.cell 4).trans rfl
    have n5 := (hbx.cell 5).trans rfl
    unfold backI
    rw [if_neg hk]
    clear hx h1 h2 h ho9 ht9 hbx
    go_enter Tryd.func59, Tryd.ntmps59
    go_wp2_with fail
    refine (HU.out _ _ HG9.out HS9.out).mono ?_
    rintro e w5 ⟨rfl, h5, g5⟩
    have H5 := Lib.hid h5
    have G5 := Lib.hid (grown_trans HG9.out g5)
    clear h5 g5
    go_wp2_with fail
    go_end0
    exact ⟨rfl, H5.out, G5.out⟩
end Go.Proofs.YtdgmdpphimenjaaDoor.Lv12

/-
  Layer 12: the names of a set, rising: the library's sort of a map's keys laid at the program; what an instruction uses.
-/
namespace Go.Proofs
open Go.RowKit Go.Maps Go.Sort Go.Shelf
shelf_lay_g SlLaysZ.n7 Ggz 7 at Tryd 68 as Tryd.keysL
shelf_lay_g SlLaysZ.n6 Ggz 6 at Tryd 67 as Tryd.sortedL
shelf_lay_g SlLaysM.n6 Slgm 6 at Tryd 98 as Tryd.sortL
theorem Tryd.sortsL (m : Nat) : AnyZ.SortsIn Tryd.prog Tryd.sortedL_ren Fence.wide m :=
  ⟨fun blk off cap ss W hH hblk hsz => callsIn_wide.2 (AnyM.slices_Sort_string Tryd.sortL blk off cap ss W hH hblk hsz), fun p cap W => callsIn_wide.2 (AnyM.slices_Sort_string_none Tryd.sortL p cap W)⟩
end Go.Proofs
namespace Go.Proofs.YtdgmdpphimenjaaDoor.Lv12
open Go.RowKit Api Mem Sh8 Go.Maps Go.Sort Go.Shelf
theorem keys_any (mb : Option Nat) (W : World) : Calls Tryd.prog 68 #[.map mb] W fun e w' => e = .returned (.func (.func 99) #[] #[.pointer (some ⟨W.heap.size, 0, none⟩)]) ∧ w' = W.alloc (.cells #[.map mb] 94) :=
  (callsIn_wide (n := 5)).1 (AnyZ.keys_in Tryd.keysL Fence.wide 5 trivial rfl mb W)
set_option maxHeartbeats 1000000 in
theorem keysGive (m b nn : Nat) (hm : 1 ≤ m) (D0 : DataW Unit) (R : Value → Option (DataW Unit × List MemPlace)) (w : World) (hown : w.ownsMap Tryd.prog 9 R b nn D0) :
    SeqGives Fence.wide m Tryd.prog 99 #[.pointer (some ⟨w.heap.size, 0, none⟩)] encStr (fun ss => ss.Perm (strKeys D0)) (Maps.size D0) (w.alloc (.cells #[.map (some b)] 94)) :=
  have hbl := hown.lt
  AnyZ.keys_gives (ρ := Tryd.keysL_ren) { Tryd.keysL with } Fence.wide _ trivial rfl hm w.heap.size b nn D0 _ (by simp) (by simp) (by
    obtain ⟨es, clock, hb, Ft, hs, hD⟩ := hown
    exact ⟨es, clock, (Below.heap_alloc _ _ b hbl).trans hb, Ft, hs, hD⟩)
set_option maxHeartbeats 1000000 in
theorem sorted_any (b nn : Nat) (D0 : DataW Unit) (R : Value → Option (DataW Unit × List MemPlace)) (w : World) (hown : w.ownsMap Tryd.prog 9 R b nn D0) (hmax : Maps.size D0 ≤ maxLen) (hbytes : Maps.size D0 * 16 ≤ 140737488355328) :
    Calls Tryd.prog 67 #[.func (.func 99) #[] #[.pointer (some ⟨w.heap.size, 0, none⟩)]] (w.alloc (.cells #[.map (some b)] 94)) fun e w' => ∃ (v : Value) (ss : List (List UInt8)), e = .returned v ∧ ss.Perm (strKeys D0) ∧
      w'.ownsRow (w.alloc (.cells #[.map (some b)] 94)).heap.size 9 1 v ss.length ((ss.mergeSort (fun x y => decide (x ≤ y))).map encStr) ∧ (v = .slice none 0 0 ↔ ss = []) ∧ Below (w.alloc (.cells #[.map (some b)] 94)).heap.size (w.alloc (.cells #[.map (some b)] 94)) w' :=
  (callsIn_wide (n := 5)).1 (AnyZ.sorted_in Tryd.sortedL Fence.wide 5 trivial trivial trivial trivial rfl (by omega) (Tryd.sortsL _) (enters_of Tryd.func98 (by kernel_rfl) rfl) 99 #[.pointer (some ⟨w.heap.size, 0, none⟩)] trivial (enters_of Tryd.func99 (by kernel_rfl) rfl) _ _ hmax hbytes _ (keysGive _ b nn (by omega) D0 R w hown))
/-- names, each once, rising. -/
structure Rise (r : List Wd) : Prop where
  nd : r.Nodup
  up : r.Pairwise (· ≤ ·)
theorem rise_eq {a b : List Wd} (ha : Rise a) (hb : Rise b) (h : ∀ x, x ∈ a ↔ x ∈ b) : a = b :=
  List.Perm.eq_of_pairwise (le := (· ≤ ·)) (fun a b _ _ h1 h2 => List.le_antisymm h1 h2) ha.up hb.up ((List.perm_ext_iff_of_nodup ha.nd hb.nd).2 h)
theorem rise_sort {l : List Wd} (h : l.Nodup) : Rise (l.mergeSort (fun x y => decide (x ≤ y))) := by
  refine ⟨(List.mergeSort_perm l _).nodup_iff.2 h, ?_⟩
  have := List.pairwise_mergeSort (le := fun x y : Wd => decide (x ≤ y)) (fun a b c h1 h2 => by simp only [decide_eq_true_eq] at *; exact List.le_trans h1 h2) (fun a b => by simp only [Bool.or_eq_true, decide_eq_true_eq]; exact List.le_total a b) l
  exact this.imp fun h => by simpa using h
/-- the names of S, rising, in new memory. -/
def RiseP (S : Wd → Bool) (w : World) (e : Ending) (w' : World) : Prop :=
  ∃ v r, e = .returned v ∧ Rise r ∧ (∀ x, x ∈ r ↔ S x = true) ∧ w'.ownsRow w.heap.size 9 1 v r.length (r.map str) ∧ (v = .slice none 0 0 ↔ r = []) ∧ Below w.heap.size w w'
theorem own_addr {w : World} {base : Nat} {e : TypeId} {size : Nat} {A : Option Addr} {n c : Nat} {xs : List Value} (h : w.ownsRow base e size (.slice A n c) n xs) {k : Nat} (hk : k < n) : ∃ b, A = some ⟨b, 0, none⟩ ∧ base ≤ b ∧ b < w.heap.size := by
  rcases h.2 with ⟨h', h0⟩ | ⟨g', cap', cur, h', hb, hg, _⟩
  · omega
  · simp only [Value.slice.injEq] at h'
    obtain ⟨rfl, _, _⟩ := h'
    exact ⟨g', rfl, hb, (Array.getElem?_eq_some_iff.1 hg).1⟩
theorem own_at {w : World} {base : Nat} {e : TypeId} {size : Nat} {b n c : Nat} {xs : List Value} (h : w.ownsRow base e size (.slice (some ⟨b, 0, none⟩) n c) n xs) {k : Nat} {u : Value} (hk : xs[k]? = some u) : w.cell? ⟨b, k, none⟩ = some u := by
  have := World.ownsRow.cells h (g := b) rfl k u hk
  unfold Addr.add at this
  split at this <;> simp_all
theorem own_below {w w' : World} {base : Nat} {e : TypeId} {size : Nat} {v : Value} {n : Nat} {xs : List Value} (h : w.ownsRow base e size v n xs) (hb : Below w.heap.size w w') : w'.ownsRow base e size v n xs := World.ownsRow.kept h (row := none) ⟨hb.os, hb.tape, hb.output, hb.size, fun k hk _ => hb.block k hk⟩ (by cases hv : v.ownBlock <;> simp)
theorem set_same {α : Type} {l : List α} {k : Nat} {x : α} (h : l[k]? = some x) : l.set k x = l := by
  apply List.ext_getElem?
  intro j
  rw [List.getElem?_set]
  split
  · rename_i e
    subst e
    split
    · exact h.symm
    · rename_i h2
      rw [List.getElem?_eq_none (by omega)]
  · rfl
set_option maxRecDepth 100000 in
set_option maxHeartbeats 8000000 in
theorem rising_any {U : List Wd} (hU : UOk U) {w : World} {g : Nat} {S : Wd → Bool} (h : SetO U w g S) :
    Calls Tryd.prog 38 #[.map (some g)] w (RiseP S w) := by
  obtain ⟨D, h1, h2, h3, h4, h5, h6⟩ := h.keys
  have hl := hU.len
  have HB := Lib.hid hU.nm
  have HSub := Lib.hid h.2
  have HK := Lib.hid (keys_any (some g) w)
  have HS := Lib.hid (sorted_any g _ D unitElem w h1 (by unfold maxLen; omega) (by omega))
  have H3 := Lib.hid h3
  have H4 := Lib.hid h4
  have hsz : (strKeys D).length ≤ 1000000000000 := by omega
  clear h h1 h2 h3 h4 h5 h6 hl
  go_enter Tryd.func38, Tryd.ntmps38
  go_wp2_with fail
  refine HK.out.mono ?_
  rintro e w1 ⟨rfl, rfl⟩
  go_wp2_with fail
  refine HS.out.mono ?_
  rintro e w2 ⟨v, ss, rfl, hp, hrow, hnil, hb⟩
  obtain ⟨r, hr⟩ : ∃ r, r = ss.mergeSort (fun x y => decide (x ≤ y)) := ⟨_, rfl⟩
  rw [← hr] at hrow
  have hrise : Rise r := by rw [hr]; exact rise_sort (hp.nodup_iff.2 H3.out)
  have hmem : ∀ x, x ∈ r ↔ S x = true := fun x => by rw [hr, List.mem_mergeSort, hp.mem_iff, H4.out x]
  have hlen : ss.length = r.length := by rw [hr, List.length_mergeSort]
  have hls : r.length ≤ 1000000000000 := by rw [← hlen, hp.length_eq]; exact hsz
  have HR := Lib.hid hrise
  have HM := Lib.hid hmem
  have HN := Lib.hid (show v = .slice none 0 0 ↔ r = [] from hnil.trans ⟨fun h => List.eq_nil_of_length_eq_zero (by rw [← hlen, h]; rfl), fun h => List.eq_nil_of_length_eq_zero (by rw [hlen, h]; rfl)⟩)
  have HB2 := Lib.hid (show Below w.heap.size w w2 from ((Below.refl _ w).alloc (Nat.le_refl _) _).trans (hb.mono (by simp)))
  rw [hlen] at hrow
  obtain ⟨A, c, rfl⟩ := row_form hrow
  have HO := Lib.hid (show w2.ownsRow w.heap.size 9 1 (.slice A r.length c) r.length (r.map str) from ownsRow_base_a hrow (by simp))
  clear hr hp hrow hnil hb hrise hmem hlen
  go_wp2_with fail
  go_loopw [11] (fun i wr => ∃ k : Nat, k ≤ r.length ∧ i = .int .i64 k ∧ Hid (wr.ownsRow w.heap.size 9 1 (.slice A r.length c) r.length (r.map str)) ∧ Hid (Below w.heap.size w wr)) (fun i _ => r.length - (intOf i).toNat)
  case atStart => exact ⟨0, Nat.zero_le _, rfl, HO, HB2⟩
  case round =>
  clear HO HB2
  obtain ⟨k, hk, rfl, HO, HBr⟩ := hrel
  by_cases hlt : k < r.length
  · obtain ⟨x, hx⟩ : ∃ x, r[k]? = some x := ⟨_, List.getElem?_eq_getElem hlt⟩
    obtain ⟨b, rfl, hbase, hb⟩ := own_addr HO.out hlt
    have hc := own_at HO.out (show (r.map str)[k]? = some (str x) by rw [List.getElem?_map, hx]; rfl)
    have hf := HO.out.frozenAt k
    have HC := Lib.hid (fun (w' : World) => clone_any ⟨x.toArray⟩ w' (by have := HB.out x (HSub.out x ((HM.out x).1 (List.mem_of_getElem? hx))); simp [ByteArray.size]; omega))
    have hxm : (r.map str)[k]? = some (str x) := by rw [List.getElem?_map, hx]; rfl
    have HX := Lib.hid (show (r.map str).set k (str x) = r.map str from set_same hxm)
    have HXM := Lib.hid hxm
    clear hxm
    clear hx
    go_wp2_with fail
    refine (HC.out wr).mono ?_
    rintro e w5 ⟨rfl, hb5⟩
    have ho5 := own_below HO.out hb5
    have m1 := ho5.frozenAt k
    have m2 := own_at ho5 HXM.out
    have HS5 := Lib.hid (ho5.stored k (str x)).1
    have hb6 := HBr.out.trans (hb5.mono HBr.out.size)
    have HB5 := Lib.hid (hb6.grown (ho5.stored k (str x)).2 hb6.size (fun j hj => by cases hj; exact hbase))
    have HS6 := Lib.hid (show (w5.setCell ⟨b, k, none⟩ (str x)).ownsRow w.heap.size 9 1 (.slice (some ⟨b, 0, none⟩) r.length c) r.length (r.map str) by have h := HS5.out; rwa [HX.out] at h)
    clear ho5 hb5 hb6
    go_wp2_with fail
    go_roundw
    case rel => exact ⟨k + 1, by omega, by go_num, HS6, HB5⟩
    case measure => simp [intOf]; omega
  · obtain rfl : k = r.length := by omega
    go_wp2_with fail
    go_ret
    exact ⟨_, r, rfl, HR.out, HM.out, HO.out, HN.out, HBr.out⟩
theorem rise_lower {S : Wd → Bool} {w w5 w' : World} {e : Ending} (h : RiseP S w5 e w') (hb : Below w.heap.size w w5) : RiseP S w e w' := by
  obtain ⟨v, r, h1, h2, h3, h4, h5, h6⟩ := h
  exact ⟨v, r, h1, h2, h3, ownsRow_base_a h4 hb.size, h5, hb.trans (h6.mono hb.size)⟩
theorem rise_same {S S' : Wd → Bool} {w w' : World} {e : Ending} (h : RiseP S w e w') (hs : ∀ y, S y = S' y) : RiseP S' w e w' := by
  obtain rfl : S = S' := funext hs
  exact h
end Go.Proofs.YtdgmdpphimenjaaDoor.Lv12

/-
  Layer 12: what is known of blocks, in memory: their maps and rows, apart from one another.
-/
namespace Go.Proofs.YtdgmdpphimenjaaDoor.Lv12
open Go.RowKit Api Mem Sh8 Go.Maps

/-- block b is no cells of that type. -/
def NotT (w : World) (b : Nat) (e : TypeId) : Prop := ∀ cur p, w.heap[b]? ≠ some (.cells cur e p)
theorem notT_map {U : List Wd} {w : World} {g : Nat} {S : Wd → Bool} (h : SetO U w g S) (e : TypeId) : NotT w g e := by
  obtain ⟨⟨D, ⟨es, clock, h1, r⟩, h2⟩, h3⟩ := h
  intro cur p e1
  rw [h1] at e1
  cases e1
theorem notT_own {w : World} {b : Nat} {t e : TypeId} {cs : List Value} (h : Mem.Own w b t cs) (hne : t ≠ e) : NotT w b e := by
  intro cur p e1
  have h2 : w.heap[b]? = some (.cells cs.toArray t (0, 0)) := h
  rw [h2] at e1
  simp only [Option.some.injEq, Obj.cells.injEq] at e1
  exact hne e1.2.1
theorem notT_new {w : World} {b : Nat} (hb : w.heap.size ≤ b) (e : TypeId) : NotT w b e := by
  intro cur p e1
  rw [Array.getElem?_eq_none hb] at e1
  cases e1
theorem notT_row {w : World} {b base size n : Nat} {t e : TypeId} {v : Value} {xs : List Value} (h : w.ownsRow base t size v n xs) (hv : v.ownBlock = some b) (hne : t ≠ e) : NotT w b e := by
  intro cur p e1
  rcases h.2 with ⟨e9, _⟩ | ⟨g, cap, cur2, e9, _, hk, _⟩
  · rw [e9] at hv; cases hv
  · rw [e9] at hv
    cases hv
    rw [hk] at e1
    simp only [Option.some.injEq, Obj.cells.injEq] at e1
    exact hne e1.2.1
theorem row_other {w w' : World} {base size n b : Nat} {e : TypeId} {v : Value} {xs : List Value} (h : w.ownsRow base e size v n xs) (hg : w.grownBy w' (some b)) (hn : NotT w b e) : w'.ownsRow base e size v n xs := by
  refine World.ownsRow.kept h hg ?_
  cases hv : v.ownBlock with
  | none => exact .inl rfl
  | some k =>
    right
    intro e1
    simp only [Option.some.injEq] at e1
    subst e1
    rcases h.2 with ⟨e9, _⟩ | ⟨g, cap, cur, e9, _, hk, _⟩
    · rw [e9] at hv; cases hv
    · rw [e9] at hv
      cases hv
      exact hn _ _ hk
theorem row_others {w w' : World} {base size n : Nat} {row : Option Nat} {e : TypeId} {v : Value} {xs : List Value} (h : w.ownsRow base e size v n xs) (hg : w.grownBy w' row) (hn : ∀ b, row = some b → NotT w b e) : w'.ownsRow base e size v n xs := by
  cases row with
  | none =>
    refine World.ownsRow.kept h hg ?_
    cases hv : v.ownBlock <;> simp
  | some b => exact row_other h hg (hn b rfl)
theorem grown_cell (w : World) (a : Addr) (u : Value) : w.grownBy (w.setCell a u) (some a.block) := ⟨rfl, rfl, rfl, by simp, fun k _ hk => heap_setCell_other w a k u fun e => hk (by simp [e])⟩
/-- block b is cells, or not there yet. -/
def IsRow (w : World) (b : Nat) : Prop := w.heap.size ≤ b ∨ ∃ cur e p, w.heap[b]? = some (.cells cur e p)
theorem isRow_row {w : World} {b base size n : Nat} {t : TypeId} {v : Value} {xs : List Value} (h : w.ownsRow base t size v n xs) (hv : v.ownBlock = some b) : IsRow w b := by
  rcases h.2 with ⟨e9, _⟩ | ⟨g, cap, cur2, e9, _, hk, _⟩
  · rw [e9] at hv; cases hv
  · rw [e9] at hv
    cases hv
    exact .inr ⟨_, _, _, hk⟩
theorem isRow_own {w : World} {b : Nat} {t : TypeId} {cs : List Value} (h : Mem.Own w b t cs) : IsRow w b := .inr ⟨_, _, _, h⟩
theorem set_ne_row {U : List Wd} {w : World} {g b : Nat} {S : Wd → Bool} (h : SetO U w g S) (hb : IsRow w b) : g ≠ b := by
  intro e
  subst e
  rcases hb with hb | ⟨cur, e, p, hb⟩
  · have := h.lt; omega
  · exact notT_map h e cur p hb
def upd {α : Type} (f : Nat → α) (i : Nat) (a : α) (j : Nat) : α := if j = i then a else f j
theorem upd_at {α : Type} (f : Nat → α) (i : Nat) (a : α) : upd f i a i = a := if_pos rfl
theorem upd_ne {α : Type} (f : Nat → α) (a : α) {i j : Nat} (h : j ≠ i) : upd f i a j = f j := if_neg h
/-! ### maps -/
def OkM (n m x : Nat) : Prop := x / 4 < n ∧ (x % 4 = 3 → x / 4 < m)
structure MS (U : List Wd) (w : World) (n m : Nat) (c : Nat → Nat) (S : Nat → Wd → Bool) : Prop where
  set : ∀ x, OkM n m x → SetO U w (c x) (S x)
  inj : ∀ x y, OkM n m x → OkM n m y → c x = c y → x = y
section
variable {U : List Wd} {w w' : World} {n m : Nat} {c : Nat → Nat} {S : Nat → Wd → Bool}
theorem MS.put (h : MS U w n m c S) {x : Nat} (hx : OkM n m x) (hg : w.grownBy w' (some (c x))) {T : Wd → Bool} (hs : SetO U w' (c x) T) : MS U w' n m c (upd S x T) := by
  refine ⟨fun y hy => ?_, h.inj⟩
  by_cases e : y = x
  · subst e
    rw [upd_at]
    exact hs
  · rw [upd_ne _ _ e]
    exact (h.set y hy).grown hg fun e1 => e (h.inj y x hy hx (by simpa using e1))
theorem MS.row (h : MS U w n m c S) {row : Option Nat} (hg : w.grownBy w' row) (hr : ∀ b, row = some b → IsRow w b) : MS U w' n m c S :=
  ⟨fun y hy => (h.set y hy).grown hg fun e1 => set_ne_row (h.set y hy) (hr _ e1.symm) rfl, h.inj⟩
theorem MS.below (h : MS U w n m c S) (hb : Below w.heap.size w w') : MS U w' n m c S := ⟨fun y hy => (h.set y hy).below hb (h.set y hy).lt, h.inj⟩
theorem MS.same (h : MS U w n m c S) {c' : Nat → Nat} {S' : Nat → Wd → Bool} (hc : ∀ x, OkM n m x → c x = c' x) (hs : ∀ x, OkM n m x → S x = S' x) : MS U w n m c' S' :=
  ⟨fun y hy => by rw [← hc y hy, ← hs y hy]; exact h.set y hy, fun x y hx hy e => h.inj x y hx hy (by rw [hc x hx, hc y hy]; exact e)⟩
theorem MS.live (h : MS U w n m c S) (_hm : m < n) (hb : Below w.heap.size w w') {g : Nat} {T : Wd → Bool} (hg : w.heap.size ≤ g) (hs : SetO U w' g T) : MS U w' n (m + 1) (upd c (4 * m + 3) g) (upd S (4 * m + 3) T) := by
  have ok : ∀ y, OkM n (m + 1) y → y ≠ 4 * m + 3 → OkM n m y := fun y ⟨h1, h2⟩ hy => ⟨h1, fun h3 => by have := h2 h3; omega⟩
  refine ⟨fun y hy => ?_, fun x y hx hy e => ?_⟩
  · by_cases e : y = 4 * m + 3
    · subst e
      rw [upd_at, upd_at]
      exact hs
    · rw [upd_ne _ _ e, upd_ne _ _ e]
      exact (h.set y (ok y hy e)).below hb (h.set y (ok y hy e)).lt
  · by_cases ex : x = 4 * m + 3
    · subst ex
      by_cases ey : y = 4 * m + 3
      · exact ey.symm
      · rw [upd_at, upd_ne _ _ ey] at e
        have := (h.set y (ok y hy ey)).lt
        omega
    · by_cases ey : y = 4 * m + 3
      · subst ey
        rw [upd_at, upd_ne _ _ ex] at e
        have := (h.set x (ok x hx ex)).lt
        omega
      · rw [upd_ne _ _ ex, upd_ne _ _ ey] at e
        exact h.inj x y (ok x hx ex) (ok y hy ey) e
/-- three new maps. -/
theorem MS.three (h : MS U w n 0 c S) (hb : Below w.heap.size w w') {a b d : Nat} (hab : a ≠ b) (had : a ≠ d) (hbd : b ≠ d) (ga : w.heap.size ≤ a) (gb : w.heap.size ≤ b) (gd : w.heap.size ≤ d) {A B D : Wd → Bool} (ha : SetO U w' a A) (hb2 : SetO U w' b B) (hd : SetO U w' d D) :
    MS U w' (n + 1) 0 (upd (upd (upd c (4 * n) a) (4 * n + 1) b) (4 * n + 2) d) (upd (upd (upd S (4 * n) A) (4 * n + 1) B) (4 * n + 2) D) := by
  have ok : ∀ y, OkM (n + 1) 0 y → y ≠ 4 * n → y ≠ 4 * n + 1 → y ≠ 4 * n + 2 → OkM n 0 y := fun y ⟨h1, h2⟩ h3 h4 h5 => ⟨by have := fun h6 => h2 h6; omega, h2⟩
  have cas : ∀ y, OkM (n + 1) 0 y → (y = 4 * n ∧ upd (upd (upd c (4 * n) a) (4 * n + 1) b) (4 * n + 2) d y = a) ∨ (y = 4 * n + 1 ∧ upd (upd (upd c (4 * n) a) (4 * n + 1) b) (4 * n + 2) d y = b) ∨ (y = 4 * n + 2 ∧ upd (upd (upd c (4 * n) a) (4 * n + 1) b) (4 * n + 2) d y = d) ∨ (OkM n 0 y ∧ upd (upd (upd c (4 * n) a) (4 * n + 1) b) (4 * n + 2) d y = c y ∧ c y < w.heap.size) := by
    intro y hy
    by_cases e1 : y = 4 * n
    · left
      refine ⟨e1, ?_⟩
      rw [upd_ne _ _ (by omega), upd_ne _ _ (by omega), e1, upd_at]
    by_cases e2 : y = 4 * n + 1
    · right; left
      refine ⟨e2, ?_⟩
      rw [upd_ne _ _ (by omega), e2, upd_at]
    by_cases e3 : y = 4 * n + 2
    · right; right; left
      refine ⟨e3, ?_⟩
      rw [e3, upd_at]
    · right; right; right
      have hk := ok y hy e1 e2 e3
      refine ⟨hk, ?_, (h.set y hk).lt⟩
      rw [upd_ne _ _ e3, upd_ne _ _ e2, upd_ne _ _ e1]
  refine ⟨fun y hy => ?_, fun x y hx hy e => ?_⟩
  · rcases cas y hy with ⟨rfl, e⟩ | ⟨rfl, e⟩ | ⟨rfl, e⟩ | ⟨hk, e, hlt⟩
    · rw [e, upd_ne _ _ (by omega), upd_ne _ _ (by omega), upd_at]; exact ha
    · rw [e, upd_ne _ _ (by omega), upd_at]; exact hb2
    · rw [e, upd_at]; exact hd
    · have hh := h.set y hk
      have h1 := hk.1
      rw [e, upd_ne _ _ (by omega), upd_ne _ _ (by omega), upd_ne _ _ (by omega)]
      exact hh.below hb hh.lt
  · rcases cas x hx with ⟨e1, q1⟩ | ⟨e1, q1⟩ | ⟨e1, q1⟩ | ⟨k1, q1, l1⟩ <;> rcases cas y hy with ⟨e2, q2⟩ | ⟨e2, q2⟩ | ⟨e2, q2⟩ | ⟨k2, q2, l2⟩ <;> rw [q1, q2] at e <;> first | omega | exact h.inj x y k1 k2 e
end
/-! ### the blocks' own cells -/
def upd2 (F : Nat → Nat → Value) (i j : Nat) (u : Value) (a b : Nat) : Value := if a = i ∧ b = j then u else F a b
def OutC (w : World) (B n : Nat) (F : Nat → Nat → Value) : Prop := ∃ cs, Mem.Own w B 96 cs ∧ cs.length = n * 7 ∧ ∀ i j, i < n → j < 7 → cs[i * 7 + j]? = some (F i j)
section
variable {w w' : World} {B n : Nat} {F : Nat → Nat → Value}
theorem OutC.lt (h : OutC w B n F) : B < w.heap.size := by
  obtain ⟨cs, h1, _⟩ := h
  exact h1.lt
theorem OutC.cell (h : OutC w B n F) {i j : Nat} (hi : i < n) (hj : j < 7) : w.cell? ⟨B, i * 7 + j, none⟩ = some (F i j) := by
  obtain ⟨cs, h1, _, h2⟩ := h
  exact (h1.cell _).trans (h2 i j hi hj)
theorem OutC.thaw (h : OutC w B n F) (k : Nat) : w.frozen? ⟨B, k, none⟩ = false := by
  obtain ⟨cs, h1, _⟩ := h
  exact h1.thaw k
theorem OutC.store (h : OutC w B n F) {i j : Nat} (hj : j < 7) (u : Value) : OutC (w.setCell ⟨B, i * 7 + j, none⟩ u) B n (upd2 F i j u) := by
  obtain ⟨cs, h1, h2, h3⟩ := h
  refine ⟨_, h1.store _ u, by simpa using h2, fun a b ha hb => ?_⟩
  rw [List.getElem?_set]
  unfold upd2
  by_cases e : a = i ∧ b = j
  · obtain ⟨rfl, rfl⟩ := e
    simp
    omega
  · rw [if_neg (by omega), if_neg e]
    exact h3 a b ha hb
theorem OutC.same (h : OutC w B n F) {F' : Nat → Nat → Value} (e : ∀ i j, i < n → j < 7 → F i j = F' i j) : OutC w B n F' := by
  obtain ⟨cs, h1, h2, h3⟩ := h
  exact ⟨cs, h1, h2, fun i j hi hj => by rw [← e i j hi hj]; exact h3 i j hi hj⟩
theorem OutC.other (h : OutC w B n F) {row : Option Nat} (hg : w.grownBy w' row) (hb : row ≠ some B) : OutC w' B n F := by
  have hl := h.lt
  obtain ⟨cs, h1, h2⟩ := h
  exact ⟨cs, (hg.block B hl (Ne.symm hb)).trans h1, h2⟩
theorem OutC.below (h : OutC w B n F) (hb : Below w.heap.size w w') : OutC w' B n F := by
  have hl := h.lt
  obtain ⟨cs, h1, h2⟩ := h
  exact ⟨cs, h1.below hb hl, h2⟩
end
/-! ### rows of one kind -/
structure Fam {α : Type} (t : TypeId) (enc : α → Value) (w : World) (base n : Nat) (v : Nat → Value) (l : Nat → List α) : Prop where
  own : ∀ i, i < n → w.ownsRow base t 1 (v i) (l i).length ((l i).map enc)
  ap : ∀ i j b, i < n → j < n → (v i).ownBlock = some b → (v j).ownBlock = some b → i = j
section
variable {α : Type} {t : TypeId} {enc : α → Value} {w w' : World} {base n : Nat} {v : Nat → Value} {l : Nat → List α}
theorem Fam.put (h : Fam t enc w base n v l) {i : Nat} (hi : i < n) (hg : w.grownBy w' (v i).ownBlock) {v' : Value} {l' : List α} (hv : w'.ownsRow base t 1 v' l'.length (l'.map enc)) (hf : v'.ownBlock = (v i).ownBlock ∨ ∀ k, v'.ownBlock = some k → w.heap.size ≤ k) : Fam t enc w' base n (upd v i v') (upd l i l') := by
  refine ⟨fun j hj => ?_, fun a b k ha hb h1 h2 => ?_⟩
  · by_cases e : j = i
    · subst e
      rw [upd_at, upd_at]
      exact hv
    · rw [upd_ne _ _ e, upd_ne _ _ e]
      refine World.ownsRow.kept (h.own j hj) hg ?_
      cases hk : (v j).ownBlock with
      | none => exact .inl rfl
      | some k => exact .inr fun e1 => e (h.ap j i k hj hi hk e1.symm)
  · by_cases ea : a = i
    · subst ea
      by_cases eb : b = a
      · exact eb.symm
      · rw [upd_at] at h1
        rw [upd_ne _ _ eb] at h2
        rcases hf with hf | hf
        · exact (h.ap a b k ha hb (by rw [← hf]; exact h1) h2)
        · have := hf k h1
          have := ((h.own b hb).lt k h2).2
          omega
    · by_cases eb : b = i
      · subst eb
        rw [upd_at] at h2
        rw [upd_ne _ _ ea] at h1
        rcases hf with hf | hf
        · exact (h.ap a b k ha hb h1 (by rw [← hf]; exact h2))
        · have := hf k h2
          have := ((h.own a ha).lt k h1).2
          omega
      · rw [upd_ne _ _ ea] at h1
        rw [upd_ne _ _ eb] at h2
        exact h.ap a b k ha hb h1 h2
theorem Fam.others (h : Fam t enc w base n v l) {row : Option Nat} (hg : w.grownBy w' row) (hn : ∀ b, row = some b → NotT w b t) : Fam t enc w' base n v l := ⟨fun i hi => row_others (h.own i hi) hg hn, h.ap⟩
theorem Fam.other (h : Fam t enc w base n v l) {b : Nat} (hg : w.grownBy w' (some b)) (hn : NotT w b t) : Fam t enc w' base n v l := ⟨fun i hi => row_other (h.own i hi) hg hn, h.ap⟩
theorem Fam.below (h : Fam t enc w base n v l) (hb : Below w.heap.size w w') : Fam t enc w' base n v l := ⟨fun i hi => own_below (h.own i hi) hb, h.ap⟩
theorem Fam.nil (t : TypeId) (enc : α → Value) (w : World) (base n : Nat) : Fam t enc w base n (fun _ => .slice none 0 0) (fun _ => []) := ⟨fun i hi => ⟨by simp, .inl ⟨rfl, rfl⟩⟩, fun i j b _ _ h => by cases h⟩
theorem Fam.same (h : Fam t enc w base n v l) {v' : Nat → Value} {l' : Nat → List α} (hv : ∀ i, i < n → v i = v' i) (hl : ∀ i, i < n → l i = l' i) : Fam t enc w base n v' l' :=
  ⟨fun i hi => by rw [← hv i hi, ← hl i hi]; exact h.own i hi, fun i j b hi hj => by rw [← hv i hi, ← hv j hj]; exact h.ap i j b hi hj⟩
end
/-! ### all of it -/
/-- what stands in field j of block i. -/
def FF (m : Nat) (c : Nat → Nat) (vi vg : Nat → Value) (i j : Nat) : Value :=
  if j = 0 then vi (2 * i) else if j = 1 then vi (2 * i + 1) else if j = 2 then .map (some (c (4 * i))) else if j = 3 then .map (some (c (4 * i + 1))) else if j = 4 then .map (some (c (4 * i + 2))) else if j = 5 then .map (if i < m then some (c (4 * i + 3)) else none) else vg i
structure St (U : List Wd) (w : World) (base B n m : Nat) (c : Nat → Nat) (S : Nat → Wd → Bool) (vi : Nat → Value) (li : Nat → List Int) (vg : Nat → Value) (gr : Nat → List Wd) : Prop where
  ob : base ≤ B
  out : OutC w B n (FF m c vi vg)
  ms : MS U w n m c S
  mb : ∀ x, OkM n m x → base ≤ c x
  ri : Fam 3 i64 w base (2 * n) vi li
  rg : Fam 9 str w base n vg gr
theorem FF_clear (m : Nat) (c : Nat → Nat) (vi vg : Nat → Value) (i : Nat) (v : Value) (a b : Nat) (hb : b < 7) : upd2 (FF m c vi vg) i 6 v a b = FF m c vi (upd vg i v) a b := by
  unfold upd2 FF upd
  by_cases e : a = i
  · subst e
    by_cases e2 : b = 6
    · subst e2
      simp
    · rw [if_neg (by omega)]
      simp only [if_true]
      repeat (split; rfl)
      omega
  · simp only [e, false_and, if_false]
section
variable {U : List Wd} {w w' : World} {base B n m : Nat} {c : Nat → Nat} {S : Nat → Wd → Bool} {vi : Nat → Value} {li : Nat → List Int} {vg : Nat → Value} {gr : Nat → List Wd}
theorem OutC.isRow {F : Nat → Nat → Value} (h : OutC w B n F) : IsRow w B := by
  obtain ⟨cs, h1, _⟩ := h
  exact isRow_own h1
theorem OutC.notT {F : Nat → Nat → Value} (h : OutC w B n F) {e : TypeId} (he : 96 ≠ e) : NotT w B e := by
  obtain ⟨cs, h1, _⟩ := h
  exact notT_own h1 he
theorem St.below (h : St U w base B n m c S vi li vg gr) (hb : Below w.heap.size w w') : St U w' base B n m c S vi li vg gr :=
  ⟨h.ob, h.out.below hb, h.ms.below hb, h.mb, h.ri.below hb, h.rg.below hb⟩
/-- a set has turned. -/
theorem St.putm (h : St U w base B n m c S vi li vg gr) {x : Nat} (hx : OkM n m x) (hg : w.grownBy w' (some (c x))) {T : Wd → Bool} (hs : SetO U w' (c x) T) : St U w' base B n m c (upd S x T) vi li vg gr := by
  have h1 := h.ms.set x hx
  exact ⟨h.ob, h.out.other hg (fun e => set_ne_row h1 h.out.isRow (by simpa using e)), h.ms.put hx hg hs, h.mb, h.ri.other hg (notT_map h1 _), h.rg.other hg (notT_map h1 _)⟩
/-- a row of names has turned, and is laid into its block. -/
theorem St.push (h : St U w base B n m c S vi li vg gr) {i : Nat} (hi : i < n) (hg : w.grownBy w' (vg i).ownBlock) {v' : Value} {l' : List Wd} (hv : w'.ownsRow base 9 1 v' l'.length (l'.map str)) (hf : v'.ownBlock = (vg i).ownBlock ∨ ∀ k, v'.ownBlock = some k → w.heap.size ≤ k) : St U (w'.setCell ⟨B, i * 7 + 6, none⟩ v') base B n m c S vi li (upd vg i v') (upd gr i l') := by
  have hr : ∀ b, (vg i).ownBlock = some b → IsRow w b := fun b hb => isRow_row (h.rg.own i hi) hb
  have hne : (vg i).ownBlock ≠ some B := fun e => by
    have h1 := notT_row (h.rg.own i hi) e (e := 96) (by decide)
    obtain ⟨cs, h2, _⟩ := h.out
    exact h1 _ _ h2
  have o1 := h.out.other hg hne
  have m1 := h.ms.row hg hr
  have i1 := h.ri.others hg fun b hb => notT_row (h.rg.own i hi) hb (by decide)
  have g1 := h.rg.put hi hg hv hf
  have gc := grown_cell w' ⟨B, i * 7 + 6, none⟩ v'
  exact ⟨h.ob, (o1.store (i := i) (j := 6) (by omega) v').same fun a b _ hb => FF_clear m c vi vg i v' a b hb, m1.row gc fun b hb => by cases hb; exact o1.isRow, h.mb, i1.other gc (o1.notT (by decide)), g1.other gc (o1.notT (by decide))⟩
theorem St.outAt (h : St U w base B n m c S vi li vg gr) {i : Nat} (hi : i < n) (hg : w.grownBy w' (vg i).ownBlock) : OutC w' B n (FF m c vi vg) :=
  h.out.other hg fun e => by
    have h1 := notT_row (h.rg.own i hi) e (e := 96) (by decide)
    obtain ⟨cs, h2, _⟩ := h.out
    exact h1 _ _ h2
/-- what is to be told is none any more. -/
theorem St.clear (h : St U w base B n m c S vi li vg gr) {i : Nat} (hi : i < n) : St U (w.setCell ⟨B, i * 7 + 6, none⟩ (.slice none 0 0)) base B n m c S vi li (upd vg i (.slice none 0 0)) (upd gr i []) :=
  h.push hi ⟨rfl, rfl, rfl, Nat.le_refl _, fun _ _ _ => rfl⟩ (v' := .slice none 0 0) (l' := []) ⟨by simp, .inl ⟨rfl, rfl⟩⟩ (.inr fun k hk => by cases hk)
theorem St.cell (h : St U w base B n m c S vi li vg gr) {i j : Nat} (hi : i < n) (hj : j < 7) : w.cell? ⟨B, i * 7 + j, none⟩ = some (FF m c vi vg i j) := h.out.cell hi hj
end
section
variable {U : List Wd} {w w' : World} {base B n m : Nat} {c : Nat → Nat} {S : Nat → Wd → Bool} {vi : Nat → Value} {li : Nat → List Int} {vg : Nat → Value} {gr : Nat → List Wd}
theorem FF_live (c : Nat → Nat) (vi vg : Nat → Value) (m g a b : Nat) (hb : b < 7) : upd2 (FF m c vi vg) m 5 (.map (some g)) a b = FF (m + 1) (upd c (4 * m + 3) g) vi vg a b := by
  by_cases e : a = m
  · subst e
    by_cases e2 : b = 5
    · subst e2
      simp [upd2, FF, upd_at]
    · unfold upd2
      rw [if_neg (by omega)]
      unfold FF
      rw [upd_ne _ _ (by omega : 4 * a ≠ 4 * a + 3), upd_ne _ _ (by omega : 4 * a + 1 ≠ 4 * a + 3), upd_ne _ _ (by omega : 4 * a + 2 ≠ 4 * a + 3)]
      simp only [e2, if_false]
  · unfold upd2
    rw [if_neg (by omega)]
    unfold FF
    rw [upd_ne _ _ (by omega : 4 * a ≠ 4 * m + 3), upd_ne _ _ (by omega : 4 * a + 1 ≠ 4 * m + 3), upd_ne _ _ (by omega : 4 * a + 2 ≠ 4 * m + 3), upd_ne _ _ (by omega : 4 * a + 3 ≠ 4 * m + 3)]
    have e3 : (a < m + 1) ↔ (a < m) := by omega
    simp only [e3]
/-- a new set is laid into the next block. -/
theorem St.live (h : St U w base B n m c S vi li vg gr) (hm : m < n) (hb : Below w.heap.size w w') {g : Nat} (hg : w.heap.size ≤ g) (hbase : base ≤ w.heap.size) {T : Wd → Bool} (hs : SetO U w' g T) : St U (w'.setCell ⟨B, m * 7 + 5, none⟩ (.map (some g))) base B n (m + 1) (upd c (4 * m + 3) g) (upd S (4 * m + 3) T) vi li vg gr := by
  have h1 := h.below hb
  have gc := grown_cell w' ⟨B, m * 7 + 5, none⟩ (.map (some g))
  refine ⟨h.ob, (h1.out.store (i := m) (j := 5) (by omega) _).same fun a b _ hb => FF_live c vi vg m g a b hb, ((h.ms.live hm hb hg hs).row gc fun b e => by cases e; exact h1.out.isRow), fun x hx => ?_, h1.ri.other gc (h1.out.notT (by decide)), h1.rg.other gc (h1.out.notT (by decide))⟩
  by_cases e : x = 4 * m + 3
  · subst e
    rw [upd_at]
    omega
  · rw [upd_ne _ _ e]
    exact h.mb x ⟨hx.1, fun h3 => by have := hx.2 h3; omega⟩
end
theorem notT_walk {w : World} {r : Nat} (h : ∃ o : Obj, w.heap[r]? = some o ∧ o.isCells = false) (e : TypeId) : NotT w r e := by
  obtain ⟨o, h1, h2⟩ := h
  intro cur p e1
  rw [h1] at e1
  cases e1
  cases h2
theorem own_walk {w w' : World} {b : Nat} {t : TypeId} {cs : List Value} (h : Mem.Own w b t cs) {row : Option Nat} (hg : w.grownBy w' row) (hr : ∀ r, row = some r → ∃ o : Obj, w.heap[r]? = some o ∧ o.isCells = false) : Mem.Own w' b t cs :=
  (hg.block b h.lt fun e => notT_walk (hr b e.symm) t _ _ h).trans h
/-- a block that is neither cells nor one of these maps has turned. -/
theorem St.walk {U : List Wd} {w w' : World} {base B n m : Nat} {c : Nat → Nat} {S : Nat → Wd → Bool} {vi : Nat → Value} {li : Nat → List Int} {vg : Nat → Value} {gr : Nat → List Wd} (h : St U w base B n m c S vi li vg gr) {row : Option Nat} (hg : w.grownBy w' row) (hr : ∀ r, row = some r → (∀ x, OkM n m x → c x ≠ r) ∧ ∃ o : Obj, w.heap[r]? = some o ∧ o.isCells = false) : St U w' base B n m c S vi li vg gr :=
  ⟨h.ob, h.out.other hg (fun e => by
    obtain ⟨cs, h1, _⟩ := h.out
    exact notT_walk (hr B e).2 _ _ _ h1), ⟨fun x hx => (h.ms.set x hx).grown hg fun e => (hr _ e.symm).1 x hx rfl, h.ms.inj⟩, h.mb, h.ri.others hg (fun b e => notT_walk (hr b e).2 _), h.rg.others hg (fun b e => notT_walk (hr b e).2 _)⟩
theorem FF_row (m : Nat) (c : Nat → Nat) (vi vg : Nat → Value) (x : Nat) (v : Value) (a b : Nat) : upd2 (FF m c vi vg) (x / 2) (x % 2) v a b = FF m c (upd vi x v) vg a b := by
  unfold upd2
  by_cases e : a = x / 2 ∧ b = x % 2
  · rw [if_pos e]
    obtain ⟨rfl, rfl⟩ := e
    unfold FF
    rcases Nat.mod_two_eq_zero_or_one x with e | e
    · rw [if_pos e, show 2 * (x / 2) = x by omega, upd_at]
    · rw [if_neg (by omega), if_pos e, show 2 * (x / 2) + 1 = x by omega, upd_at]
  · rw [if_neg e]
    unfold FF
    by_cases e0 : b = 0
    · rw [if_pos e0, if_pos e0, upd_ne _ _ (by omega)]
    · by_cases e1 : b = 1
      · rw [if_neg e0, if_pos e1, if_neg e0, if_pos e1, upd_ne _ _ (by omega)]
      · simp only [e0, e1, if_false]
/-- a row of numbers has turned, and is laid into its block. -/
theorem St.pushi {U : List Wd} {w w' : World} {base B n m : Nat} {c : Nat → Nat} {S : Nat → Wd → Bool} {vi : Nat → Value} {li : Nat → List Int} {vg : Nat → Value} {gr : Nat → List Wd} (h : St U w base B n m c S vi li vg gr) {x : Nat} (hx : x < 2 * n) (hg : w.grownBy w' (vi x).ownBlock) {v' : Value} {l' : List Int} (hv : w'.ownsRow base 3 1 v' l'.length (l'.map i64)) (hf : v'.ownBlock = (vi x).ownBlock ∨ ∀ k, v'.ownBlock = some k → w.heap.size ≤ k) : St U (w'.setCell ⟨B, x / 2 * 7 + x % 2, none⟩ v') base B n m c S (upd vi x v') (upd li x l') vg gr := by
  have hr : ∀ b, (vi x).ownBlock = some b → IsRow w b := fun b hb => isRow_row (h.ri.own x hx) hb
  have hne : (vi x).ownBlock ≠ some B := fun e => by
    have h1 := notT_row (h.ri.own x hx) e (e := 96) (by decide)
    obtain ⟨cs, h2, _⟩ := h.out
    exact h1 _ _ h2
  have o1 := h.out.other hg hne
  have m1 := h.ms.row hg hr
  have g1 := h.rg.others hg fun b hb => notT_row (h.ri.own x hx) hb (by decide)
  have i1 := h.ri.put hx hg hv hf
  have gc := grown_cell w' ⟨B, x / 2 * 7 + x % 2, none⟩ v'
  exact ⟨h.ob, (o1.store (i := x / 2) (j := x % 2) (by omega) v').same fun a b _ _ => FF_row m c vi vg x v' a b, m1.row gc fun b hb => by cases hb; exact o1.isRow, h.mb, i1.other gc (o1.notT (by decide)), g1.other gc (o1.notT (by decide))⟩
theorem St.outI {U : List Wd} {w w' : World} {base B n m : Nat} {c : Nat → Nat} {S : Nat → Wd → Bool} {vi : Nat → Value} {li : Nat → List Int} {vg : Nat → Value} {gr : Nat → List Wd} (h : St U w base B n m c S vi li vg gr) {x : Nat} (hx : x < 2 * n) (hg : w.grownBy w' (vi x).ownBlock) : OutC w' B n (FF m c vi vg) :=
  h.out.other hg fun e => by
    have h1 := notT_row (h.ri.own x hx) e (e := 96) (by decide)
    obtain ⟨cs, h2, _⟩ := h.out
    exact h1 _ _ h2
theorem Fam.lower {α : Type} {t : TypeId} {enc : α → Value} {w : World} {base base' n : Nat} {v : Nat → Value} {l : Nat → List α} (h : Fam t enc w base n v l) (hb : base' ≤ base) : Fam t enc w base' n v l := ⟨fun i hi => ownsRow_base_a (h.own i hi) hb, h.ap⟩
theorem St.lower {U : List Wd} {w : World} {base base' B n m : Nat} {c : Nat → Nat} {S : Nat → Wd → Bool} {vi : Nat → Value} {li : Nat → List Int} {vg : Nat → Value} {gr : Nat → List Wd} (h : St U w base B n m c S vi li vg gr) (hb : base' ≤ base) : St U w base' B n m c S vi li vg gr :=
  ⟨Nat.le_trans hb h.ob, h.out, h.ms, fun x hx => Nat.le_trans hb (h.mb x hx), h.ri.lower hb, h.rg.lower hb⟩
/-- append(row, one thing), and where the row lies then. -/
theorem wpList_growP {P : Program} {w : World} {ops : Array Oper} {rest : List Oper} {o : Oper} {a : Go.Act} {Q : Exit → Go.Act → World → Prop} (hgd : o.guard = none) (s x : Operand) (t : TypeId)
    (ho : o.op = .call { callee := .builtin .append, args := #[s, x], argTypes := #[t, t] })
    (base : Nat) (e : TypeId) (size : Nat) (i : TypeInfo) (z : Value) (bytes : Nat) (ht : P.underlying t = some (.slice e)) (hi : P.info? e = some i) (hz : i.zero = some z)
    (hsize : i.size = size) (hby : i.bytes = bytes) (hzs : z.cells.size = size) (hsz : 0 < size)
    (v : Value) (n : Nat) (xs : List Value) (hs : a.eval s = v) (hown : w.ownsRow base e size v n xs)
    (news : List Value) (k : Nat) (hkw : k = w.heap.size) (hx : a.eval x = .slice (some ⟨k, 0, none⟩) 1 1) (hl : news.length = size) (h1 : ∀ u ∈ news, u.oneCell' = true)
    (h63 : n + 1 ≤ 9223372036854775807) (hbytes : (n + 1) * bytes ≤ 140737488355328) (hbase : base ≤ w.heap.size)
    (h : ∀ v' w', w'.ownsRow base e size v' (n + 1) (xs ++ news) → w.grownBy w' v.ownBlock → (v'.ownBlock = v.ownBlock ∨ ∀ k, v'.ownBlock = some k → w.heap.size ≤ k) → wpList P ops Q rest (a.put o.dst v') w') :
    wpList P ops Q (o :: rest) a (w.alloc (.cells news.toArray e)) := by
  subst hkw
  have ho2 : (w.alloc (.cells news.toArray e)).ownsRow base e size v n xs := World.ownsRow.alloc hown _
  have hnews : ∀ j u, news[j]? = some u → (w.alloc (.cells news.toArray e)).cell? ((⟨w.heap.size, 0, none⟩ : Addr).add j) = some u := by
    intro j u hu
    have e1 : (⟨w.heap.size, 0, none⟩ : Addr).add j = ⟨w.heap.size, j, none⟩ := by unfold Addr.add; split <;> simp_all
    rw [e1, (Mem.Own.made w e news).cell]
    exact hu
  refine wpList_plain hgd fun K hK => ?_
  obtain ⟨v', w', hr, h2, h3, _⟩ := run_append_own (P := P) (w.alloc (.cells news.toArray e)) base t o.type e i z size bytes ht hi hz hsize hby hzs hsz v n xs ho2 ⟨w.heap.size, 0, none⟩ 1 1 news (by omega) hnews h1 (by unfold maxLen; omega) hbytes (by simp; omega)
  obtain ⟨v2, w2, hr2, h4⟩ := Hold.append_block (P := P) (w.alloc (.cells news.toArray e)) base t o.type e i z ht hi hz v n xs (by rw [hsize]; exact ho2) ⟨w.heap.size, 0, none⟩ 1 1 news (by omega) hnews h1 (by omega) h63 (by rw [hby]; exact hbytes)
  have ev : v2 = v' := by
    rw [hr] at hr2
    injection hr2 with e1 _
    exact e1.symm
  subst ev
  have hb : w.grownBy w' v.ownBlock := ⟨h3.os, h3.tape, h3.output, Nat.le_trans (by simp) h3.size, fun k hk hne => (h3.block k (by simp; omega) hne).trans (Below.heap_alloc w _ k hk)⟩
  unfold Oper.wp execOp
  simp only [ho, resolve, invoke, builtin, Sem.run_bind, Sem.run_pure, Result.andThen_ok, List.map_toArray, List.map_cons, List.map_nil, hs, hx, hr]
  refine hK _ _ (h v2 w' h2 hb ?_)
  rcases h4 with h4 | h4
  · exact .inl h4
  · right
    intro k hk
    rw [h4] at hk
    injection hk with hk
    subst hk
    simp
end Go.Proofs.YtdgmdpphimenjaaDoor.Lv12

/-
  Layer 12: what a block tells, and what it is told.
-/
namespace Go.Proofs.YtdgmdpphimenjaaDoor.Lv12
open Go.RowKit Api Mem Sh8 Go.Maps

theorem info_str : (Tryd.prog.info? 9).map (fun i => (i.zero, i.size, i.bytes)) = some (some (.string ⟨#[]⟩), 1, 16) := by kernel_rfl
theorem filter_next {α : Type} {p : α → Bool} {l : List α} {k : Nat} {x : α} (h : l[k]? = some x) : (l.take (k + 1)).filter p = (l.take k).filter p ++ (if p x = true then [x] else []) := by
  rw [take_at h, List.filter_append]
  congr 1
  by_cases e : p x = true <;> simp [e]
/-- rows of numbers stay as they are. -/
def KeepI (w w' : World) : Prop := ∀ (b : Nat) (v : Value) (n : Nat) (xs : List Value), w.ownsRow b 3 1 v n xs → w'.ownsRow b 3 1 v n xs
theorem KeepI.refl (w : World) : KeepI w w := fun _ _ _ _ h => h
theorem KeepI.trans {a b c : World} (h : KeepI a b) (k : KeepI b c) : KeepI a c := fun q v n xs o => k q v n xs (h q v n xs o)
theorem KeepI.below {w w' : World} (h : Below w.heap.size w w') : KeepI w w' := fun _ _ _ _ o => own_below o h
theorem KeepI.grown {w w' : World} {row : Option Nat} (hg : w.grownBy w' row) (hn : ∀ b, row = some b → NotT w b 3) : KeepI w w' := fun _ _ _ _ o => row_others o hg hn
set_option maxRecDepth 100000 in
set_option maxHeartbeats 8000000 in
theorem tell_k {U : List Wd} (hU : UOk U) {w : World} {base B n m : Nat} {c : Nat → Nat} {S : Nat → Wd → Bool} {vi : Nat → Value} {li : Nat → List Int} {vg : Nat → Value} {gr : Nat → List Wd} (h : St U w base B n m c S vi li vg gr) (hb : base ≤ w.heap.size) {i : Nat} (hi : i < n) (hgU : ∀ x ∈ gr i, x ∈ U) (hgl : (gr i).length ≤ 1000000000000) :
    Calls Tryd.prog 96 #[.pointer (some ⟨B, i * 7, none⟩)] w fun e w' => ∃ v r, e = .returned v ∧ r = (gr i).filter (fun x => !S (4 * i) x) ∧ w'.ownsRow w.heap.size 9 1 v r.length (r.map str) ∧ St U w' base B n m c S vi li (upd vg i (.slice none 0 0)) (upd gr i []) ∧ Below base w w' ∧ KeepI w w' := by
  obtain ⟨is, his, hz0, hz1, hz2⟩ := info_parts info_str
  have HIS := Lib.hid (show _ ∧ _ ∧ _ ∧ _ from ⟨his, hz0, hz1, hz2⟩)
  clear his hz0 hz1 hz2
  have hOk : OkM n m (4 * i) := ⟨by omega, fun h => by omega⟩
  have HOK := Lib.hid hOk
  have HGU := Lib.hid hgU
  have n2 := (h.cell hi (show 2 < 7 by omega)).trans (congrArg some (show FF m c vi vg i 2 = .map (some (c (4 * i))) from rfl))
  have n6 := (h.cell hi (show 6 < 7 by omega)).trans (congrArg some (show FF m c vi vg i 6 = vg i from rfl))
  obtain ⟨A, k0, hv⟩ := row_form (h.rg.own i hi)
  rw [hv] at n6
  have HV := Lib.hid hv
  have HST := Lib.hid h
  clear h hv hgU hOk
  have HN0 := Lib.hid (show w.ownsRow w.heap.size 9 1 (.slice none 0 0) 0 [] from ⟨by simp, .inl ⟨rfl, rfl⟩⟩)
  go_enter Tryd.func96, Tryd.ntmps96
  go_wp2_with fail
  go_loopw [3, 11] (fun nv iv wr => ∃ k : Nat, k ≤ (gr i).length ∧ iv = .int .i64 k ∧ ∃ A1 k1, nv = .slice A1 (((gr i).take k).filter (fun x => !S (4 * i) x)).length k1 ∧ Hid (wr.ownsRow w.heap.size 9 1 (.slice A1 (((gr i).take k).filter (fun x => !S (4 * i) x)).length k1) (((gr i).take k).filter (fun x => !S (4 * i) x)).length ((((gr i).take k).filter (fun x => !S (4 * i) x)).map str)) ∧ Hid (Below w.heap.size w wr)) (fun _ iv _ => (gr i).length - (intOf iv).toNat)
  case atStart => exact ⟨0, Nat.zero_le _, rfl, none, 0, rfl, HN0, Lib.hid (Below.refl _ _)⟩
  case round =>
  clear n2 n6
  obtain ⟨k, hk, rfl, A1, k1, rfl, HO, HBr⟩ := hrel
  have hst := HST.out.below HBr.out
  have n2 := (hst.cell hi (show 2 < 7 by omega)).trans (congrArg some (show FF m c vi vg i 2 = .map (some (c (4 * i))) from rfl))
  by_cases hlt : k < (gr i).length
  · obtain ⟨x, hx⟩ : ∃ x, (gr i)[k]? = some x := ⟨_, List.getElem?_eq_getElem hlt⟩
    have hrow := hst.rg.own i hi
    rw [HV.out] at hrow
    obtain ⟨b, rfl, hbase, hbl⟩ := own_addr hrow hlt
    have n5 := own_at hrow (show ((gr i).map str)[k]? = some (str x) by rw [List.getElem?_map, hx]; rfl)
    have HQ := Lib.hid (has_any (hst.ms.set _ HOK.out) x (hU.nm x (HGU.out x (List.mem_of_getElem? hx))))
    have hnx := filter_next (p := fun x => !S (4 * i) x) hx
    obtain ⟨sb, hsb⟩ : ∃ sb, S (4 * i) x = sb := ⟨_, rfl⟩
    rw [hsb] at HQ
    simp only [hsb] at hnx
    have HNX := Lib.hid hnx
    have hfl : (((gr i).take k).filter (fun x => !S (4 * i) x)).length ≤ 1000000000000 := by
      have := List.length_filter_le (fun x => !S (4 * i) x) ((gr i).take k)
      have h2 := List.length_take_le k (gr i)
      omega
    clear hx hrow hst hsb hnx
    go_wp2_with fail
    refine HQ.out.mono ?_
    rintro e w5 ⟨rfl, g5⟩
    have hb5 : Below wr.heap.size wr w5 := (Below.refl _ _).grown g5 (Nat.le_refl _) (fun j hj => by cases hj)
    have HO5 := Lib.hid (own_below HO.out hb5)
    have HB5 := Lib.hid (HBr.out.trans (hb5.mono HBr.out.size))
    clear g5 hb5
    cases sb with
    | true =>
      go_wp2_with fail
      go_roundw
      case rel => exact ⟨k + 1, by omega, by go_num, A1, k1, by rw [HNX.out]; simp, by rw [HNX.out]; simpa using HO5, HB5⟩
      case measure => simp [intOf]; omega
    | false =>
      go_wp2_with (at_builtin; refine wpList_growP rfl _ _ 41 rfl w.heap.size 9 1 is _ 16 Tryd.underlying41 HIS.out.1 HIS.out.2.1 HIS.out.2.2.1 HIS.out.2.2.2 rfl Nat.one_pos _ _ _ rfl HO5.out [str x] _ rfl rfl rfl (by intro u hu; rw [List.mem_singleton] at hu; subst hu; rfl) (by omega) (by omega) HB5.out.size ?_; intro v6 w6 h6 g6 f6; obtain ⟨A6, k6, rfl⟩ := row_form h6; have HO6 := Lib.hid h6; have HB6 := Lib.hid (HB5.out.grown g6 HB5.out.size (fun j hj => (HO5.out.lt j hj).1)); clear h6 g6 f6)
      go_roundw
      case rel =>
        refine ⟨k + 1, by omega, by go_num, A6, k6, by rw [HNX.out]; simp, ?_, HB6⟩
        refine Lib.hid ?_
        have h := HO6.out
        rw [HNX.out]
        simpa using h
      case measure => simp [intOf]; omega
  · obtain rfl : k = (gr i).length := by omega
    rw [List.take_length] at HO
    rw [List.take_length]
    have hth := hst.out.thaw (i * 7 + 6)
    have n6 := (hst.cell hi (show 6 < 7 by omega)).trans (congrArg some (show FF m c vi vg i 6 = vg i from rfl))
    rw [HV.out] at n6
    have HST2 := Lib.hid hst
    clear hst
    go_wp2_with fail
    go_ret
    have gc := grown_cell wr ⟨B, i * 7 + 6, none⟩ (.slice none 0 0)
    exact ⟨_, _, rfl, rfl, row_other HO.out gc (HST2.out.out.notT (by decide)), HST2.out.clear hi, ((HBr.out.mono hb).grown gc (Nat.le_trans hb HBr.out.size) (fun j hj => by cases hj; exact HST2.out.ob)), (KeepI.below HBr.out).trans (KeepI.grown gc (fun b e => by cases e; exact HST2.out.out.notT (by decide)))⟩
theorem tell_any {U : List Wd} (hU : UOk U) {w : World} {base B n m : Nat} {c : Nat → Nat} {S : Nat → Wd → Bool} {vi : Nat → Value} {li : Nat → List Int} {vg : Nat → Value} {gr : Nat → List Wd} (h : St U w base B n m c S vi li vg gr) (hb : base ≤ w.heap.size) {i : Nat} (hi : i < n) (hgU : ∀ x ∈ gr i, x ∈ U) (hgl : (gr i).length ≤ 1000000000000) :
    Calls Tryd.prog 96 #[.pointer (some ⟨B, i * 7, none⟩)] w fun e w' => ∃ v r, e = .returned v ∧ r = (gr i).filter (fun x => !S (4 * i) x) ∧ w'.ownsRow w.heap.size 9 1 v r.length (r.map str) ∧ St U w' base B n m c S vi li (upd vg i (.slice none 0 0)) (upd gr i []) ∧ Below base w w' :=
  (tell_k hU h hb hi hgU hgl).mono fun _ _ ⟨v, r, q1, q2, q3, q4, q5, _⟩ => ⟨v, r, q1, q2, q3, q4, q5⟩
end Go.Proofs.YtdgmdpphimenjaaDoor.Lv12

/-
  Layer 12: what a block is told.
-/
namespace Go.Proofs.YtdgmdpphimenjaaDoor.Lv12
open Go.RowKit Api Mem Sh8 Go.Maps

/-- what comes of telling these names to a block that sets X and has L live: L' is live, and these are new. -/
structure Ned (X L L' : Wd → Bool) (bh add : List Wd) : Prop where
  iff : ∀ x, L' x = true ↔ L x = true ∨ x ∈ add
  new : ∀ x ∈ add, x ∈ bh ∧ X x = false ∧ L x = false
  nd : add.Nodup
  all : ∀ x ∈ bh, X x = true ∨ L' x = true
theorem Ned.start (X L : Wd → Bool) : Ned X L L [] [] := ⟨fun x => (by simp), fun x h => (by cases h), List.nodup_nil, fun x h => (by cases h)⟩
theorem Ned.skip {X L L' : Wd → Bool} {bh add : List Wd} (h : Ned X L L' bh add) {x : Wd} (hx : X x = true ∨ L' x = true) : Ned X L L' (bh ++ [x]) add :=
  ⟨h.iff, fun y hy => ⟨List.mem_append_left _ (h.new y hy).1, (h.new y hy).2⟩, h.nd, fun y hy => by
    rcases List.mem_append.1 hy with hy | hy
    · exact h.all y hy
    · rw [List.mem_singleton] at hy
      subst hy
      exact hx⟩
theorem Ned.add {X L L' : Wd → Bool} {bh add : List Wd} (h : Ned X L L' bh add) {x : Wd} (hx : X x = false) (hl : L' x = false) : Ned X L (addS L' x) (bh ++ [x]) (add ++ [x]) := by
  have h0 : ¬ (L x = true ∨ x ∈ add) := fun e => by rw [(h.iff x).2 e] at hl; cases hl
  refine ⟨fun y => ?_, fun y hy => ?_, ?_, fun y hy => ?_⟩
  · unfold addS
    rw [Bool.or_eq_true, h.iff y, decide_eq_true_iff, List.mem_append, List.mem_singleton, or_assoc]
  · rcases List.mem_append.1 hy with hy | hy
    · exact ⟨List.mem_append_left _ (h.new y hy).1, (h.new y hy).2⟩
    · rw [List.mem_singleton] at hy
      subst hy
      exact ⟨by simp, hx, by cases e : L y with | true => exact absurd (.inl e) h0 | false => rfl⟩
  · rw [List.nodup_append]
    exact ⟨h.nd, by simp, fun a ha b hb e => h0 (.inr (by rw [List.mem_singleton] at hb; rw [← hb, ← e]; exact ha))⟩
  · rcases List.mem_append.1 hy with hy | hy
    · rcases h.all y hy with e | e
      · exact .inl e
      · exact .inr (by simp [addS, e])
    · rw [List.mem_singleton] at hy
      exact .inr (by simp [addS, hy])
theorem add_le {X L L' : Wd → Bool} {bh add : List Wd} (h : Ned X L L' bh add) : add.length ≤ bh.length := sub_len h.nd fun x hx => (h.new x hx).1
theorem g67 {w w' : World} (h : Below w.heap.size w w') {row : Option Nat} : w.grownBy w' row := ⟨h.os, h.tape, h.output, h.size, fun k hk _ => h.block k hk⟩
theorem upd_upd {α : Type} (f : Nat → α) (i : Nat) (a b : α) : upd (upd f i a) i b = upd f i b := funext fun j => by unfold upd; split <;> rfl
theorem upd_self {α : Type} (f : Nat → α) (i : Nat) : upd f i (f i) = f := funext fun j => by unfold upd; split <;> simp_all
/-- between two names. -/
def NeedS (U : List Wd) (w : World) (base B n m : Nat) (c : Nat → Nat) (S : Nat → Wd → Bool) (vi : Nat → Value) (li : Nat → List Int) (vg : Nat → Value) (gr : Nat → List Wd) (i : Nat) (vb : Value) (bh : List Wd) (k : Nat) (w' : World) : Prop :=
  ∃ L' add v', Ned (S (4 * i + 1)) (S (4 * i + 3)) L' (bh.take k) add ∧ St U w' base B n m c (upd S (4 * i + 3) L') vi li (upd vg i v') (upd gr i (gr i ++ add)) ∧ w'.ownsRow base 9 1 vb bh.length (bh.map str) ∧ (∀ j k, j < n → ((upd vg i v') j).ownBlock = some k → vb.ownBlock ≠ some k) ∧ Below base w w' ∧ KeepI w w'
set_option maxRecDepth 100000 in
set_option maxHeartbeats 8000000 in
theorem need_any {U : List Wd} (hU : UOk U) {w : World} {base B n m : Nat} {c : Nat → Nat} {S : Nat → Wd → Bool} {vi : Nat → Value} {li : Nat → List Int} {vg : Nat → Value} {gr : Nat → List Wd} (h : St U w base B n m c S vi li vg gr) (hb : base ≤ w.heap.size) {i : Nat} (hi : i < n) (him : i < m) (hgl : (gr i).length ≤ 1000000000000)
    (A : Option Addr) (k0 : Nat) (bh : List Wd) (hbh : w.ownsRow base 9 1 (.slice A bh.length k0) bh.length (bh.map str)) (hbU : ∀ x ∈ bh, x ∈ U) (hbl : bh.length ≤ 1000000000000) (hap : ∀ j k, j < n → (vg j).ownBlock = some k → (Value.slice A bh.length k0).ownBlock ≠ some k) :
    Calls Tryd.prog 97 #[.pointer (some ⟨B, i * 7, none⟩), .slice A bh.length k0] w fun e w' => e = .returned (.tuple #[]) ∧ NeedS U w base B n m c S vi li vg gr i (.slice A bh.length k0) bh bh.length w' := by
  obtain ⟨is, his, hz0, hz1, hz2⟩ := info_parts info_str
  have HIS := Lib.hid (show _ ∧ _ ∧ _ ∧ _ from ⟨his, hz0, hz1, hz2⟩)
  clear his hz0 hz1 hz2
  have HOK1 := Lib.hid (show OkM n m (4 * i + 1) from ⟨by omega, fun h => by omega⟩)
  have HOK3 := Lib.hid (show OkM n m (4 * i + 3) from ⟨by omega, fun h => by omega⟩)
  have HBU := Lib.hid hbU
  have HH := Lib.hid (show NeedS U w base B n m c S vi li vg gr i (.slice A bh.length k0) bh 0 w from
    ⟨S (4 * i + 3), [], vg i, Ned.start _ _, by rw [upd_self, List.append_nil, upd_self, upd_self]; exact h, hbh, by rw [upd_self]; exact hap, Below.refl _ _, KeepI.refl _⟩)
  clear h hbU hbh hap
  go_enter Tryd.func97, Tryd.ntmps97
  go_wp2_with fail
  go_loopw [8] (fun iv wr => ∃ k : Nat, k ≤ bh.length ∧ iv = .int .i64 k ∧ Hid (NeedS U w base B n m c S vi li vg gr i (.slice A bh.length k0) bh k wr)) (fun iv _ => bh.length - (intOf iv).toNat)
  case atStart => exact ⟨0, Nat.zero_le _, rfl, HH⟩
  case round =>
  clear HH
  obtain ⟨k, hk, rfl, HH⟩ := hrel
  by_cases hlt : k < bh.length
  · obtain ⟨x, hx⟩ : ∃ x, bh[k]? = some x := ⟨_, List.getElem?_eq_getElem hlt⟩
    obtain ⟨L', add, v', hN, hst, hrow, hap, hbw, hki⟩ := HH.out
    obtain ⟨b, rfl, hbase, hbl2⟩ := own_addr hrow hlt
    have n1 := own_at hrow (show (bh.map str)[k]? = some (str x) by rw [List.getElem?_map, hx]; rfl)
    have n3 := (hst.cell hi (show 3 < 7 by omega)).trans (congrArg some (show FF m c vi (upd vg i v') i 3 = .map (some (c (4 * i + 1))) from rfl))
    have hxU := HBU.out x (List.mem_of_getElem? hx)
    have hx4 := hU.nm x hxU
    have hs1 := hst.ms.set _ HOK1.out
    rw [upd_ne _ _ (by omega)] at hs1
    have HQ1 := Lib.hid (has_any hs1 x hx4)
    have HQ2 := Lib.hid (fun (w1 : World) (hb1 : Below wr.heap.size wr w1) => (show Calls Tryd.prog 87 #[.map (some (c (4 * i + 3))), str x] w1 _ from has_any (S := L') (by
      have hs3 := (hst.below hb1).ms.set _ HOK3.out
      rwa [upd_at] at hs3) x hx4))
    have HF := Lib.hid (fun (w1 : World) (hb1 : Below wr.heap.size wr w1) => (show w1.cell? ⟨B, i * 7 + 5, none⟩ = some (.map (some (c (4 * i + 3)))) from ((hst.below hb1).cell hi (show 5 < 7 by omega)).trans (congrArg some (by simp [FF, him]))))
    obtain ⟨d1, hd1⟩ : ∃ d, S (4 * i + 1) x = d := ⟨_, rfl⟩
    obtain ⟨d2, hd2⟩ : ∃ d, L' x = d := ⟨_, rfl⟩
    rw [hd1] at HQ1
    simp only [hd2] at HQ2
    have HTK := Lib.hid (take_at hx)
    have HD1 := Lib.hid hd1
    have HD2 := Lib.hid hd2
    have HN := Lib.hid hN
    have HST := Lib.hid hst
    have HRW := Lib.hid hrow
    have HAP := Lib.hid hap
    have HBW := Lib.hid hbw
    have HKI := Lib.hid hki
    clear hx hN hst hrow hap hbw hki hs1 hd1 hd2
    go_wp2_with fail
    refine HQ1.out.mono ?_
    rintro e w5 ⟨rfl, g5⟩
    have HB5 := Lib.hid (show Below wr.heap.size wr w5 from (Below.refl _ _).grown g5 (Nat.le_refl _) (fun j hj => by cases hj))
    clear g5
    cases d1 with
    | true =>
      go_wp2_with fail
      go_roundw
      case rel =>
        refine ⟨k + 1, by omega, by go_num, Lib.hid ⟨L', add, v', ?_, HST.out.below HB5.out, own_below HRW.out HB5.out, HAP.out, HBW.out.trans (HB5.out.mono (Nat.le_trans hb HBW.out.size)), HKI.out.trans (KeepI.below HB5.out)⟩⟩
        rw [HTK.out]
        exact HN.out.skip (.inl HD1.out)
      case measure => simp [intOf]; omega
    | false =>
      have n5 := HF.out w5 HB5.out
      go_wp2_with fail
      refine (HQ2.out w5 HB5.out).mono ?_
      rintro e w6 ⟨rfl, g6⟩
      have HB6 := Lib.hid (HB5.out.trans ((show Below w5.heap.size w5 w6 from (Below.refl _ _).grown g6 (Nat.le_refl _) (fun j hj => by cases hj)).mono HB5.out.size))
      clear g6 n5
      cases d2 with
      | true =>
        go_wp2_with fail
        go_roundw
        case rel =>
          refine ⟨k + 1, by omega, by go_num, Lib.hid ⟨L', add, v', ?_, HST.out.below HB6.out, own_below HRW.out HB6.out, HAP.out, HBW.out.trans (HB6.out.mono (Nat.le_trans hb HBW.out.size)), HKI.out.trans (KeepI.below HB6.out)⟩⟩
          rw [HTK.out]
          exact HN.out.skip (.inr HD2.out)
        case measure => simp [intOf]; omega
      | false =>
        have n6 := HF.out w6 HB6.out
        have HA := Lib.hid (add_any hU (show SetO U w6 (c (4 * i + 3)) L' from by
          have hs3 := (HST.out.below HB6.out).ms.set _ HOK3.out
          rwa [upd_at] at hs3) x hxU)
        go_wp2_with fail
        refine HA.out.mono ?_
        rintro e w7 ⟨rfl, h7, g7⟩
        have hst7 := (HST.out.below HB6.out).putm HOK3.out g7 h7
        rw [upd_upd] at hst7
        obtain ⟨q, hq⟩ : ∃ q, gr i ++ add = q := ⟨_, rfl⟩
        rw [hq] at hst7
        have n7 := (hst7.cell hi (show 6 < 7 by omega)).trans (congrArg some (show FF m c vi (upd vg i v') i 6 = v' from upd_at _ _ _))
        have hgrow := hst7.rg.own i hi
        rw [upd_at, upd_at] at hgrow
        obtain ⟨A7, k7, rfl⟩ := row_form hgrow
        have HS7 := Lib.hid hst7
        have HG7 := Lib.hid hgrow
        have HW7 := Lib.hid (show base ≤ w7.heap.size from Nat.le_trans (Nat.le_trans hb HBW.out.size) (Nat.le_trans HB6.out.size g7.size))
        have hgl7 : q.length ≤ 2000000000000 := by
          rw [← hq]
          have := add_le HN.out
          have h2 := List.length_take_le k bh
          simp only [List.length_append]
          omega
        have HGL := Lib.hid hgl7
        have HQQ := Lib.hid hq
        have HR7 := Lib.hid (row_other HRW.out ((g67 HB6.out).andThen g7 fun j e => .inr e) (notT_map ((HST.out.ms.set _ HOK3.out)) _))
        have HKI7 := Lib.hid (show KeepI w w7 from (HKI.out.trans (KeepI.below HB6.out)).trans (KeepI.grown g7 (fun b e => by cases e; exact notT_map (by have hs3 := (HST.out.below HB6.out).ms.set _ HOK3.out; exact hs3) _)))
        have HB7 := Lib.hid (show Below base w w7 from ((HBW.out.trans (HB6.out.mono (Nat.le_trans hb HBW.out.size))).grown g7 (Nat.le_trans (Nat.le_trans hb HBW.out.size) HB6.out.size) (fun j hj => by cases hj; exact HST.out.mb _ HOK3.out)))
        clear hst7 hgrow h7 g7 hgl7 n6 n1 n3 hq
        go_wp2_with (at_builtin; refine wpList_growP rfl _ _ 41 rfl base 9 1 is _ 16 Tryd.underlying41 HIS.out.1 HIS.out.2.1 HIS.out.2.2.1 HIS.out.2.2.2 rfl Nat.one_pos _ _ _ rfl HG7.out [str x] _ rfl rfl rfl (by intro u hu; rw [List.mem_singleton] at hu; subst hu; rfl) (by have := HGL.out; omega) (by have := HGL.out; omega) HW7.out ?_; intro v8 w8 h8 g8 f8; obtain ⟨A8, k8, rfl⟩ := row_form h8; have hg8 : w7.grownBy w8 ((upd vg i (.slice A7 q.length k7)) i).ownBlock := (by rw [upd_at]; exact g8); have n8 := ((HS7.out.outAt hi hg8).cell hi (show 6 < 7 by omega)).trans (congrArg some (show FF m c vi (upd vg i (.slice A7 q.length k7)) i 6 = (.slice A7 q.length k7) from upd_at _ _ _)); have t8 := (HS7.out.outAt hi hg8).thaw (i * 7 + 6); have H8 := Lib.hid h8; have G8 := Lib.hid g8; have GG8 := Lib.hid hg8; have F8 := Lib.hid f8; clear h8 g8 f8 hg8)
        go_roundw
        case rel =>
          have hp := HS7.out.push hi GG8.out (v' := .slice A8 (q.length + 1) k8) (l' := q ++ [x]) (by simpa using H8.out) (by rw [upd_at]; exact F8.out)
          rw [upd_upd, upd_upd] at hp
          have gc := grown_cell w8 ⟨B, i * 7 + 6, none⟩ (.slice A8 (q.length + 1) k8)
          have hr8 : w8.ownsRow base 9 1 (.slice (some ⟨b, 0, none⟩) bh.length k0) bh.length (bh.map str) := World.ownsRow.kept HR7.out G8.out (.inr fun e => HAP.out i b hi (by rw [upd_at]; exact e.symm) rfl)
          refine ⟨k + 1, by omega, by go_num, Lib.hid ⟨addS L' x, add ++ [x], .slice A8 (q.length + 1) k8, ?_, ?_, row_other hr8 gc ((HS7.out.outAt hi GG8.out).notT (by decide)), ?_, ?_, ?_⟩⟩
          · rw [HTK.out]
            exact HN.out.add HD1.out HD2.out
          · rw [← List.append_assoc, HQQ.out]
            exact hp
          · intro j kk hj hk hv
            by_cases e : j = i
            · subst e
              rw [upd_at] at hk
              rcases F8.out with f | f
              · exact HAP.out j kk hj (by rw [upd_at]; exact f.symm.trans hk) hv
              · have h1 := f kk hk
                have h2 := ((HR7.out).lt kk hv).2
                omega
            · rw [upd_ne _ _ e] at hk
              exact HAP.out j kk hj (by rw [upd_ne _ _ e]; exact hk) hv
          · have h1 := HB7.out.grown G8.out HW7.out (fun j hj => (HG7.out.lt j hj).1)
            exact h1.grown gc (Nat.le_trans HW7.out G8.out.size) (fun j hj => by cases hj; exact HS7.out.ob)
          · exact (HKI7.out.trans (KeepI.grown G8.out (fun b e => notT_row HG7.out e (by decide)))).trans (KeepI.grown gc (fun b e => by cases e; exact (HS7.out.outAt hi GG8.out).notT (by decide)))
        case measure => simp [intOf]; omega
  · obtain rfl : k = bh.length := by omega
    go_wp2_with fail
    go_end0
    exact ⟨rfl, HH.out⟩
end Go.Proofs.YtdgmdpphimenjaaDoor.Lv12

/-
  Layer 12: slices.Backward of a row of instructions: what a range over it gives.
-/
namespace Go.Proofs.YtdgmdpphimenjaaDoor.Lv12
open Go.RowKit Go.Shelf Api Mem

attribute [local go_sem] Oper.semAt_some
/-- the cells of each thing of a row. -/
theorem cells_fun {α : Type} {lo hi : Nat} {w : World} {size n cap : Nat} {A : Option Addr} {P : List Value → α → Prop} {l : List α} (h : Row lo hi w size P (.slice A n cap) l) : ∃ f : Nat → List Value, ∀ k x, l[k]? = some x → ∃ b o, A = some ⟨b, o, none⟩ ∧ b < hi ∧ (∀ j u, (f k)[j]? = some u → w.cell? ⟨b, o + k * size + j, none⟩ = some u) ∧ P (f k) x := by
  have h1 : ∀ k, ∃ cs : List Value, ∀ x, l[k]? = some x → ∃ b o, A = some ⟨b, o, none⟩ ∧ b < hi ∧ (∀ j u, cs[j]? = some u → w.cell? ⟨b, o + k * size + j, none⟩ = some u) ∧ P cs x := fun k => by
    cases hx : l[k]? with
    | none => exact ⟨[], fun x e => by cases e⟩
    | some y =>
      obtain ⟨b, o, e, hb, cs, _, hc, hp⟩ := row_at h hx
      exact ⟨cs, fun x e2 => by cases e2; exact ⟨b, o, e, hb, hc, hp⟩⟩
  exact Classical.axiomOfChoice h1
/-- cells as those of an instruction are. -/
def Sixth (cs : List Value) : Prop := ∃ (a : Int) (s t : Wd) (A1 A2 A3 : Option Addr) (n1 c1 n2 c2 n3 c3 : Nat), cs = [i64 a, str s, str t, .slice A1 n1 c1, .slice A2 n2 c2, .slice A3 n3 c3]
theorem instr_fun {lo hi : Nat} {w : World} {n cap : Nat} {A : Option Addr} {l : List Instr} (h : Instrs lo hi w (.slice A n cap) l) : ∃ f : Nat → List Value, (∀ k, Sixth (f k)) ∧ ∀ k x, l[k]? = some x → ∃ b o, A = some ⟨b, o, none⟩ ∧ b < hi ∧ (∀ j u, (f k)[j]? = some u → w.cell? ⟨b, o + k * 6 + j, none⟩ = some u) ∧ InstrC lo hi w (f k) x := by
  have h1 : ∀ k, ∃ cs : List Value, Sixth cs ∧ ∀ x, l[k]? = some x → ∃ b o, A = some ⟨b, o, none⟩ ∧ b < hi ∧ (∀ j u, cs[j]? = some u → w.cell? ⟨b, o + k * 6 + j, none⟩ = some u) ∧ InstrC lo hi w cs x := fun k => by
    cases hx : l[k]? with
    | none => exact ⟨[i64 0, str [], str [], .slice none 0 0, .slice none 0 0, .slice none 0 0], ⟨0, [], [], none, none, none, 0, 0, 0, 0, 0, 0, rfl⟩, fun x e => by cases e⟩
    | some y =>
      obtain ⟨b, o, e, hb, cs, _, hc, hp⟩ := row_at h hx
      refine ⟨cs, ?_, fun x e2 => by cases e2; exact ⟨b, o, e, hb, hc, hp⟩⟩
      obtain ⟨u1, u2, u3, rfl, q1, q2, q3⟩ := hp
      obtain ⟨A1, k1, rfl⟩ := Row.form q1
      obtain ⟨A2, k2, rfl⟩ := Row.form q2
      obtain ⟨A3, k3, rfl⟩ := Row.form q3
      exact ⟨_, _, _, _, _, _, _, _, _, _, _, _, rfl⟩
  obtain ⟨f, hf⟩ := Classical.axiomOfChoice h1
  exact ⟨f, fun k => (hf k).1, fun k => (hf k).2⟩
/-- what a round keeps: all below n0, and the box of the row. -/
def Kpb (n0 Bs : Nat) (W W' : World) : Prop := Below n0 W W' ∧ W'.heap[Bs]? = W.heap[Bs]?
theorem Kpb.refl (n0 Bs : Nat) (W : World) : Kpb n0 Bs W W := ⟨Below.refl _ _, rfl⟩
theorem Kpb.trans {n0 Bs : Nat} {A B C : World} (h : Kpb n0 Bs A B) (k : Kpb n0 Bs B C) : Kpb n0 Bs A C := ⟨h.1.trans k.1, k.2.trans h.2⟩
theorem kpb_cell {n0 Bs : Nat} {A B : World} (h : Kpb n0 Bs A B) : B.cell? ⟨Bs, 0, none⟩ = A.cell? ⟨Bs, 0, none⟩ := by
  unfold World.cell?
  simp only [h.2]
set_option maxHeartbeats 1000000 in
theorem backward_in (F : Fence) (n : Nat) (h6 : F.fn 58) (hro : F.round = none) (a : Option Addr) (len cap : Nat) (w : World) :
    CallsIn F n Tryd.prog 58 #[.slice a len cap] w fun e w' => e = .returned (.func (.func 89) #[] #[.pointer (some ⟨w.heap.size, 0, none⟩)]) ∧ w' = w.alloc (.cells #[.slice a len cap] 58) := by
  refine callsIn_of_wp Tryd.func58 rfl h6 ?_ hro
  simp only [Tryd.ntmps58, List.size_toArray, List.length_cons, List.length_nil, Nat.reduceAdd, Nat.reduceSub, Array.replicate_succ, Array.replicate_zero, List.push_toArray, List.append_toArray, List.nil_append, List.cons_append]
  gi_wp2
  go_ret
  exact ⟨rfl, rfl⟩
/-- what is handed on behind x others. -/
def bkA (f : Nat → List Value) (n x : Nat) : Array Value := #[.int .i64 ((n - 1 - x : Nat) : Int), .agg (f (n - 1 - x)).toArray]
set_option maxRecDepth 100000 in
set_option maxHeartbeats 4000000 in
theorem backward1_in (F : Fence) (n : Nat) (h8 : F.fn 89) (hro : F.round = none) (hn : 1 ≤ n) (l Bs lo hi n0 : Nat) (A : Option Addr) (c : Nat) (zs : List Instr) (f : Nat → List Value) (hz : zs.length ≤ 1000000000000) (hhn : hi ≤ n0) (J Jx : List Nat → World → Prop)
    (hY : ∀ pre x W, J pre W → pre.length < zs.length → YieldAt F (n - 1) Tryd.prog l (bkA f zs.length x) W fun e W' =>
      (e = .returned (.bool true) ∧ J (pre ++ [x]) W' ∧ Kpb n0 Bs W W') ∨ (e = .returned (.bool false) ∧ Jx (pre ++ [x]) W'))
    (W : World) (hBs : W.cell? ⟨Bs, 0, none⟩ = some (.slice A zs.length c))
    (hI : ∀ k x, zs[k]? = some x → ∃ b o, A = some ⟨b, o, none⟩ ∧ b < hi ∧ (∀ j u, (f k)[j]? = some u → W.cell? ⟨b, o + k * 6 + j, none⟩ = some u) ∧ InstrC lo hi W (f k) x) (h0 : J [] W) :
    CallsIn F n Tryd.prog 89 #[.func (.yield l) #[] #[], .pointer (some ⟨Bs, 0, none⟩)] W fun e W' => (∃ v, e = .returned v) ∧
      ((∃ ys, ys = List.range zs.length ∧ J ys W') ∨ (∃ pre, True ∧ Jx pre W')) := by
  have HI := Lib.hid hI
  clear hI
  refine callsIn_of_wp Tryd.func89 rfl h8 ?_ hro
  simp only [Tryd.ntmps89, List.size_toArray, List.length_cons, List.length_nil, Nat.reduceAdd, Nat.reduceSub, Array.replicate_succ, Array.replicate_zero, List.push_toArray, List.append_toArray, List.nil_append, List.cons_append]
  gi_wp2
  gi_loopw [3] (fun i wr => ∃ (k : Nat) (iv : Int), k ≤ zs.length ∧ i = .int .i64 iv ∧ iv = (zs.length : Int) - 1 - (k : Int) ∧ J (List.range k) wr ∧ Hid (Kpb n0 Bs W wr)) (fun i _ => (intOf i + 1).toNat)
  case atStart => exact ⟨0, _, Nat.zero_le _, rfl, by omega, h0, Lib.hid (Kpb.refl _ _ _)⟩
  case round =>
    obtain ⟨k, iv, hk, rfl, hiv, hJs, HK⟩ := hrel
    have hbx := (kpb_cell HK.out).trans hBs
    by_cases hlt : k < zs.length
    · obtain ⟨m, hm⟩ : ∃ m : Nat, zs.length - 1 - k = m := ⟨_, rfl⟩
      obtain rfl : iv = (m : Int) := by omega
      obtain ⟨x, hx⟩ : ∃ x, zs[m]? = some x := ⟨_, List.getElem?_eq_getElem (by omega)⟩
      obtain ⟨b1, o1, rfl, hb1, hcs, u1, u2, u3, hf, _, _, _⟩ := HI.out m x hx
      have hbk : bkA f zs.length k = #[.int .i64 (m : Int), .agg #[i64 x.op, str x.dst, str x.name, u1, u2, u3]] := by
        unfold bkA
        rw [hm, hf]
      rw [hf] at hcs
      obtain ⟨m0, m1, m2, m3, m4, m5⟩ := at6 (cells_later hcs HK.out.1 (by omega))
      obtain ⟨fn, tmps, assign, body, hy, hR⟩ := hY _ k wr hJs (by rw [List.length_range]; exact hlt)
      rw [hbk] at hy
      have hml : m < zs.length := by omega
      have e0 : decide ((0 : Int) ≤ (m : Int)) = true := decide_eq_true (by omega)
      have HIV := Lib.hid hiv
      clear hcs hm hiv hf hbk hx
      gi_wp2
      refine hR.mono ?_
      rintro e W3 (⟨rfl, hJ3, hk3⟩ | ⟨rfl, hJx3⟩)
      · gi_wp2
        go_roundw
        case rel => exact ⟨k + 1, _, by omega, rfl, by have := HIV.out; omega, by rw [List.range_succ]; exact hJ3, Lib.hid (HK.out.trans hk3)⟩
        case measure => simp [intOf]
      · gi_wp2
        refine bodyPost_ret (results_none rfl _ _ _) rfl ?_
        exact ⟨⟨_, rfl⟩, .inr ⟨_, trivial, hJx3⟩⟩
    · obtain rfl : k = zs.length := by omega
      obtain rfl : iv = -1 := by omega
      gi_wp2
      go_end0
      exact ⟨⟨_, rfl⟩, .inl ⟨_, rfl, hJs⟩⟩
theorem backward_stops (F : Fence) (n : Nat) (h8 : F.fn 89) (hro : F.round = none) (hn : 1 ≤ n) (Bs lo hi n0 : Nat) (A : Option Addr) (c : Nat) (zs : List Instr) (f : Nat → List Value) (hz : zs.length ≤ 1000000000000) (hhn : hi ≤ n0) (w : World) (hBs : Bs < w.heap.size) (hn0 : n0 ≤ w.heap.size)
    (hc : w.cell? ⟨Bs, 0, none⟩ = some (.slice A zs.length c)) (hI : ∀ k x, zs[k]? = some x → ∃ b o, A = some ⟨b, o, none⟩ ∧ b < hi ∧ (∀ j u, (f k)[j]? = some u → w.cell? ⟨b, o + k * 6 + j, none⟩ = some u) ∧ InstrC lo hi w (f k) x) :
    SeqStopsK F n Tryd.prog 89 #[.pointer (some ⟨Bs, 0, none⟩)] (fun x : Nat => bkA f zs.length x) (Kpb n0 Bs) (fun ys => ys = List.range zs.length)
      (fun _ => True) zs.length w := fun l J Jx W hW _ _ hY h0 => by
  have hc' := (hW.cell (p := ⟨Bs, 0, none⟩) hBs).trans hc
  refine backward1_in F n h8 hro hn l Bs lo hi n0 A c zs f hz hhn J Jx hY W hc' (fun k x hx => ?_) h0
  obtain ⟨b, o, rfl, hb, hcs, hp⟩ := hI k x hx
  exact ⟨b, o, rfl, hb, cells_later hcs (hW.mono (Nat.le_trans hhn hn0)) hb, InstrC.move (Still.of_below (hW.mono (Nat.le_trans hhn hn0))) hp⟩
end Go.Proofs.YtdgmdpphimenjaaDoor.Lv12

/-
  Layer 12: the library's copy of a map, and the collected keys of one, laid at the program.
-/
namespace Go.Proofs
open Go.RowKit Go.Maps Go.Sort Go.Shelf
shelf_lay_g SlLaysW.n5 Slmc 5 at Tryd 86 as Tryd.cloneL
shelf_lay_g SlLaysZ.n8 Ggz 8 at Tryd 95 as Tryd.collectL
end Go.Proofs
namespace Go.Proofs.YtdgmdpphimenjaaDoor.Lv12
open Go.RowKit Api Mem Sh8 Go.Maps Go.Sort Go.Shelf
theorem mclone_any {U : List Wd} {w : World} {g : Nat} {S : Wd → Bool} (h : SetO U w g S) : Calls Tryd.prog 86 #[.map (some g)] w fun e w' => e = .returned (.map (some w.heap.size)) ∧ SetO U w' w.heap.size S ∧ Below w.heap.size w w' := by
  obtain ⟨⟨D, h1, h2⟩, h3⟩ := h
  exact (AnyW.maps_Clone_owns Tryd.cloneL 9 unitElem g _ D w h1).mono fun e w' ⟨q1, q2, _, q4⟩ => ⟨q1, ⟨⟨D, own_size q2, h2⟩, h3⟩, q4⟩
set_option maxHeartbeats 1000000 in
theorem collect_any {U : List Wd} (hU : UOk U) {w : World} {g : Nat} {S : Wd → Bool} (h : SetO U w g S) : Calls Tryd.prog 95 #[.func (.func 99) #[] #[.pointer (some ⟨w.heap.size, 0, none⟩)]] (w.alloc (.cells #[.map (some g)] 94)) fun e w' => ∃ (v : Value) (ss : List Wd), e = .returned v ∧ ss.Nodup ∧ (∀ x, x ∈ ss ↔ S x = true) ∧ ss.length ≤ U.length ∧ w'.ownsRow w.heap.size 9 1 v ss.length (ss.map str) ∧ Below w.heap.size w w' := by
  obtain ⟨D, h1, h2, h3, h4, h5, h6⟩ := h.keys
  have hl := hU.len
  refine ((callsIn_wide (n := 5)).1 (AnyZ.collect_in Tryd.collectL Fence.wide 5 trivial trivial rfl (by omega) 99 #[.pointer (some ⟨w.heap.size, 0, none⟩)] trivial (enters_of Tryd.func99 (by kernel_rfl) rfl) _ _ (by unfold maxLen; omega) (by omega) _ (keysGive _ g _ (by omega) D unitElem w h1))).mono ?_
  rintro e w' ⟨v, ss, rfl, hp, hrow, _, hb⟩
  have hp2 : ss.Perm (strKeys D) := hp
  exact ⟨v, ss, rfl, hp2.nodup_iff.2 h3, fun x => by rw [hp2.mem_iff, h4 x], by rw [hp2.length_eq, ← h5]; exact h6, ownsRow_base_a hrow (by simp), ((Below.refl _ w).alloc (Nat.le_refl _) _).trans (hb.mono (by simp))⟩
end Go.Proofs.YtdgmdpphimenjaaDoor.Lv12

/-
  Layer 11: a region that draws its order, in a round of a range over a function, where all but its last operations only read. No program is named here.
-/
namespace Go.Proofs.YtdgmdpphimenjaaDoor.Lp11
open Go.RowKit

theorem rowsIn_wide9 {n : Nat} {P : Program} {row : String} {args : Array Value} {w : World} {R : Value → World → Prop} (h : Rows P row args w R) : RowsIn Fence.wide n P row args w R :=
  fun c cs _ => let ⟨v, w', r, s⟩ := h c cs; ⟨v, w', r, stepsIn_wide.2 s⟩
theorem upon_round {l n : Nat} {P : Program} {o : Oper} {a : Act} {K K' : Act → World → Prop} {Q : Exit → Act → World → Prop} (hK : ∀ a w, K a w → K' a w) {r : Result Next} (h : o.upon P a K Q r) : o.uponIn (Fence.wide.inRound l) n P a K' Q r := by
  cases r with
  | ok x w' =>
    cases x with
    | value v => exact hK _ _ h
    | skip => exact hK _ _ h
    | defer d => exact hK _ _ h
    | enter f args =>
      refine ⟨(fun e => by cases e), (CallsIn.inRound l (callsIn_wide.2 h)).mono ?_⟩
      intro e w'' he
      cases e with
      | returned v => exact hK _ _ he
      | panicked c => exact he
      | outgrown => exact he
    | row row args => exact ⟨(fun e => by cases e), (rowsIn_wide9 h).mono fun v w'' hv => hK _ _ hv⟩
    | _ => exact h.elim
  | halt c w' =>
    cases c with
    | panic v => exact h
    | _ => exact h.elim
theorem op_round {l n : Nat} {P : Program} {ops : Array Oper} {Q : Exit → Act → World → Prop} (hnd : ∀ (i : Nat) (o : Oper), ops[i]? = some o → ∀ c, o.op ≠ .defer c) (hout : ¬ LetsOut Q) {K K' : Act → World → Prop} (hK : ∀ a w, K a w → K' a w) {i : Nat} {a : Act} {w : World} (h : wpOp P ops Q i K a w) : wpOpIn (Fence.wide.inRound l) n P ops Q i K' a w := by
  unfold wpOp at h
  unfold wpOpIn
  cases ho : ops[i]? with
  | none =>
    rw [ho] at h
    exact hK _ _ h
  | some o =>
    rw [ho] at h
    simp only at h ⊢
    by_cases hw : Region.wanted o (yielded ops a.tmps) = true
    · rw [if_pos hw] at h ⊢
      rcases h with h | h
      · refine ⟨fun _ _ => trivial, ?_⟩
        have e : o.semAt (Fence.wide.inRound l).round a.eval = execOp a.eval o := Oper.semAt_eq _ _ _ (hnd i o ho)
        rw [e]
        exact upon_round hK h
      · exact absurd h.2 hout
    · rw [if_neg hw] at h ⊢
      exact ⟨fun _ _ => trivial, hK _ _ h⟩
theorem any_round {l n : Nat} {P : Program} {md : Region.Mode} {ops : Array Oper} {Q : Exit → Act → World → Prop} (hnd : ∀ (i : Nat) (o : Oper), ops[i]? = some o → ∀ c, o.op ≠ .defer c) (hout : ¬ LetsOut Q) : ∀ (fuel : Nat) (listed : Array Bool) (a : Act) (w : World), wpAny P md ops Q fuel listed a w → wpAnyIn (Fence.wide.inRound l) n P md ops Q fuel listed a w
  | 0, _, _, _, h => h
  | fuel + 1, _, _, _, h => ⟨h.1, fun i hi => op_round hnd hout (fun a w k => any_round hnd hout fuel _ a w k) (h.2 i hi)⟩
def noDefer (o : Oper) : Bool := match o.op with
  | .defer _ => false
  | _ => true
/-- all but the last ones read. -/
theorem still_round {l0 k id : Nat} {P : Program} {Q : Exit → Act → World → Prop} {a : Act} {w : World} {l : List Oper} (n : Nat) (hm : P.follows .mixedOrders = true) (hB : Region.lexTailB .any l.toArray n = true) (hd : l.all noDefer = true) (hout : ¬ LetsOut Q)
    (h : wpStill P l.toArray { w with drawn := w.drawn + 1 } (fun a' => wpList P l.toArray Q (l.drop n) a' { w with drawn := w.drawn + 1 }) (l.take n) a) : (Code.region id l.toArray true).wpIn (Fence.wide.inRound l0) k P Q a w := by
  simp only [Region.lexTailB, Bool.and_eq_true, decide_eq_true_eq] at hB
  obtain ⟨⟨⟨⟨hsel, hn⟩, hs⟩, hc⟩, hlex⟩ := hB
  have hn' : n < l.length := by simpa using hn
  have htl : (l.take n).length = n := by simp; omega
  have hdl : (l.drop n).length = l.toArray.size - n := by simp
  have inv0 : HeadInv .any l.toArray n (Array.replicate l.toArray.size false) :=
    ⟨by simp, fun j oj _ hl => (by rw [getD_replicate_false] at hl; cases hl), fun t _ ht => getD_in (by simpa using ht) (getD_replicate_false _ _)⟩
  have H := wpAnyL_lex (md := .any) (g := l.toArray.size - n) hsel hs hc hn (l.take n) 0 _ a (fun j hj => by
    have hj' : j < n := by rw [htl] at hj; exact hj
    simp [hj']) (by simpa using htl) inv0 (by rw [htl]; exact hlex) h
  refine wpIn_region_any hm (any_round (fun i o ho c e => ?_) hout _ _ _ _ ?_)
  · have h1 : o ∈ l := by
      have := List.mem_of_getElem? (show l[i]? = some o by simpa using ho)
      exact this
    have h2 := List.all_eq_true.1 hd o h1
    unfold noDefer at h2
    rw [e] at h2
    cases h2
  · have := wpAny_of_head (Q' := Q) (g := l.toArray.size - n) (fun listed a' hL => by
      have := wpAny_of_seq (md := .any) (Q' := Q) (l.drop n) n listed a' { w with drawn := w.drawn + 1 } (fun j => by simp [List.getElem?_drop]) (by rw [hdl]; exact hL.1) hL.2
      rwa [hdl] at this) _ _ _ H
    rw [htl, show n + (l.toArray.size - n) = l.toArray.size by omega] at this
    exact this
end Go.Proofs.YtdgmdpphimenjaaDoor.Lp11

/-
  Layer 12: going back over what stands in a block.
-/
namespace Go.Proofs.YtdgmdpphimenjaaDoor.Lv12
open Go.RowKit Go.Shelf Api Mem Sh8 Go.Maps
attribute [local go_sem] Oper.semAt_some
abbrev Bl9 := Api.Block
/-- what is live ahead of instructions, of what is behind them. -/
def backL : List Instr → (Wd → Bool) → Wd → Bool
  | [], S => S
  | x :: r, S => backI x (backL r S)
/-- what instructions set. -/
def setsL (l : List Instr) : List Wd := (l.filter fun x => decide (x.dst ≠ [])).map (·.dst)
theorem two_boxes {w W : World} {t1 t2 : TypeId} {c1 c2 : List Value} (h : (w.alloc (.cells c1.toArray t1)).alloc (.cells c2.toArray t2) = W) : Mem.Own W w.heap.size t1 c1 ∧ Mem.Own W (w.heap.size + 1) t2 c2 ∧ Below w.heap.size w W ∧ W.heap.size = w.heap.size + 1 + 1 := by
  subst h
  refine ⟨(Mem.Own.made w t1 c1).alloc _, ?_, ((Below.refl _ _).alloc (Nat.le_refl _) _).alloc (by simp) _, by simp⟩
  have e : (w.alloc (.cells c1.toArray t1)).heap.size = w.heap.size + 1 := by simp
  have := Mem.Own.made (w.alloc (.cells c1.toArray t1)) t2 c2
  rw [e] at this
  exact this
theorem St.drew {U : List Wd} {w : World} {base B n m : Nat} {c : Nat → Nat} {S : Nat → Wd → Bool} {vi : Nat → Value} {li : Nat → List Int} {vg : Nat → Value} {gr : Nat → List Wd} (h : St U w base B n m c S vi li vg gr) : St U w.drew base B n m c S vi li vg gr := h.below (Below.refl _ w).drew
theorem grown_of_drew {w w' : World} {r : Option Nat} (g : w.drew.grownBy w' r) : w.grownBy w' r := ⟨g.os, g.tape, g.output, g.size, g.block⟩
theorem below_of_drew {B : Nat} {w w' : World} (b : Below B w.drew w') : Below B w w' := ⟨b.os, b.tape, b.output, b.size, b.block⟩
theorem upd_swap {α : Type} (f : Nat → α) {i j : Nat} (h : i ≠ j) (a b : α) : upd (upd f i a) j b = upd (upd f j b) i a := funext fun k => by
  unfold upd
  by_cases e1 : k = j
  · subst e1
    rw [if_pos rfl, if_neg (Ne.symm h), if_pos rfl]
  · rw [if_neg e1, if_neg e1]
theorem setsL_cons (x : Instr) (r : List Instr) (S : Wd → Bool) (y : Wd) : orS S (setsL (x :: r)) y = if x.dst = [] then orS S (setsL r) y else addS (orS S (setsL r)) x.dst y := by
  by_cases e : x.dst = []
  · rw [if_pos e]
    have : setsL (x :: r) = setsL r := by simp [setsL, e]
    rw [this]
  · rw [if_neg e]
    have : setsL (x :: r) = x.dst :: setsL r := by simp [setsL, e]
    rw [this]
    unfold orS addS
    by_cases e1 : y = x.dst <;> by_cases e2 : y ∈ setsL r <;> simp [e1, e2, List.mem_cons]
theorem step_back {code : List Instr} {T E : Wd → Bool} {X S : Wd → Bool} {pre : List Nat} {x j : Nat} {y : Instr} (hy : code[j]? = some y) (hj : code.length - 1 - x = j)
    (h : pre = List.range pre.length → pre.length ≤ code.length → T = backL (code.drop (code.length - pre.length)) E ∧ ∀ y, X y = orS S (setsL (code.drop (code.length - pre.length))) y) :
    pre ++ [x] = List.range (pre ++ [x]).length → (pre ++ [x]).length ≤ code.length → backI y T = backL (code.drop (code.length - (pre ++ [x]).length)) E ∧ ∀ z, (if y.dst = [] then X z else addS X y.dst z) = orS S (setsL (code.drop (code.length - (pre ++ [x]).length))) z := by
  intro e1 e2
  rw [List.length_append, List.length_singleton] at e1 e2
  rw [List.range_succ] at e1
  obtain ⟨e3, e4⟩ := List.append_inj' e1 rfl
  have e4 : x = pre.length := by simpa using e4
  obtain ⟨h1, h2⟩ := h e3 (by omega)
  obtain ⟨hl, hg⟩ := List.getElem?_eq_some_iff.1 hy
  have ed : code.drop (code.length - (pre ++ [x]).length) = y :: code.drop (code.length - pre.length) := by
    rw [show code.length - (pre ++ [x]).length = j by rw [List.length_append, List.length_singleton]; omega, List.drop_eq_getElem_cons hl, hg, show code.length - pre.length = j + 1 by omega]
  rw [ed]
  refine ⟨by rw [h1]; rfl, fun z => ?_⟩
  rw [setsL_cons]
  split
  · exact h2 z
  · unfold addS
    rw [h2 z]
/-- what begin leaves. -/
def BegP (U : List Wd) (w : World) (base B n m : Nat) (c : Nat → Nat) (S : Nat → Wd → Bool) (vi : Nat → Value) (li : Nat → List Int) (vg : Nat → Value) (gr : Nat → List Wd) (b : Bl9) (e : Ending) (w' : World) : Prop :=
  e = .returned (.tuple #[]) ∧ ∃ g v q X, St U w' base B n (m + 1) (upd c (4 * m + 3) g) (upd (upd (upd S (4 * m + 2) (orS (S (4 * m + 2)) (usesT b.fin))) (4 * m + 3) (backL b.code (orS (S (4 * m + 2)) (usesT b.fin)))) (4 * m + 1) X) vi li (upd vg m v) (upd gr m q) ∧
    (∀ y, X y = orS (S (4 * m + 1)) (setsL b.code) y) ∧ q.Nodup ∧ (∀ x, x ∈ q ↔ backL b.code (orS (S (4 * m + 2)) (usesT b.fin)) x = true) ∧ q.length ≤ U.length ∧ Below base w w'
set_option maxRecDepth 100000 in
set_option maxHeartbeats 8000000 in
theorem begin_any {U : List Wd} (hU : UOk U) {w : World} {base B n m : Nat} {c : Nat → Nat} {S : Nat → Wd → Bool} {vi : Nat → Value} {li : Nat → List Int} {vg : Nat → Value} {gr : Nat → List Wd} (h : St U w base B n m c S vi li vg gr) (hb : base ≤ w.heap.size) (hm : m < n) (hv0 : vg m = .slice none 0 0) (hg0 : gr m = [])
    (lo hi : Nat) (cs : List Value) (b : Bl9) (hc : BlockC lo hi w cs b) (hh : hi ≤ base) (hxT : ∀ x ∈ usesT b.fin, x ∈ U) (hxI : ∀ i ∈ b.code, i.dst ∈ U ∧ ∀ x ∈ usesI i, x ∈ U) (hcl : b.code.length ≤ 1000000000000) :
    Calls Tryd.prog 65 #[.pointer (some ⟨B, m * 7, none⟩), .agg cs.toArray] w fun e w' => BegP U w base B n m c S vi li vg gr b e w' := by
  obtain ⟨u1, u2, cs2, rfl, hph, hco, u3, rfl, hto⟩ := hc
  obtain ⟨A1, k1, rfl⟩ := Row.form hph
  obtain ⟨A2, k2, rfl⟩ := Row.form hco
  obtain ⟨A3, k3, rfl⟩ := Row.form hto
  obtain ⟨W0, hW0⟩ : ∃ W0, (w.alloc (.cells #[.pointer (some ⟨B, m * 7, none⟩)] 173)).alloc (.cells #[str b.name, .slice A1 b.phis.length k1, .slice A2 b.code.length k2, i64 b.fin.kind, i64 b.fin.a.kind, str b.fin.a.s, i64 b.fin.a.n, .slice A3 b.fin.dest.length k3, i64 b.fin.n] 60) = W0 := ⟨_, rfl⟩
  obtain ⟨o1, o2, b0, z0⟩ := two_boxes (c1 := [.pointer (some ⟨B, m * 7, none⟩)]) (c2 := [str b.name, .slice A1 b.phis.length k1, .slice A2 b.code.length k2, i64 b.fin.kind, i64 b.fin.a.kind, str b.fin.a.s, i64 b.fin.a.n, .slice A3 b.fin.dest.length k3, i64 b.fin.n]) hW0
  have HW0 := Lib.hid hW0
  have HO1 := Lib.hid o1
  have HO2 := Lib.hid o2
  have HB0 := Lib.hid b0
  have hz0 := z0
  have HST := Lib.hid (h.below b0)
  have HXI := Lib.hid hxI
  clear hW0 b0 hph hto hxI
  refine (callsIn_wide (n := 4)).1 ?_
  obtain ⟨fI, hf6, hfc⟩ := instr_fun hco
  have HF6 := Lib.hid hf6
  have HFC := Lib.hid hfc
  clear hf6 hfc hco
  refine callsIn_of_wp_marks Tryd.func65 rfl trivial ?_ rfl
  simp only [Tryd.ntmps65, List.size_toArray, List.length_cons, List.length_nil, Nat.reduceAdd, Nat.reduceSub, Array.replicate_succ, Array.replicate_zero, List.push_toArray, List.append_toArray, List.nil_append, List.cons_append]
  refine wpIn_wide.2 ?_
  go_wp2_with fail
  rw [HW0.out]
  have m0 := o1.cell 0
  have m3 := o2.cell 3
  have m4 := o2.cell 4
  have m5 := o2.cell 5
  have m6 := o2.cell 6
  have m7 := o2.cell 7
  have m8 := o2.cell 8
  simp only [List.getElem?_cons_zero, List.getElem?_cons_succ] at m0 m3 m4 m5 m6 m7 m8
  have n4 := (HST.out.cell hm (show 4 < 7 by omega)).trans (congrArg some (show FF m c vi vg m 4 = .map (some (c (4 * m + 2))) from rfl))
  have HOK2 := Lib.hid (show OkM n m (4 * m + 2) from ⟨by omega, fun h => by omega⟩)
  have HQ1 := Lib.hid (useEnd_any hU (show SetO U W0.drew (c (4 * m + 2)) _ from (HST.out.ms.set _ HOK2.out).drew) b.fin (.slice A3 b.fin.dest.length k3) hxT)
  clear o1 o2
  go_wp2_with fail
  go_still_tail 6, (by kernel_rfl)
  change wpList _ _ _ _ _ W0.drew
  go_wp2_with fail
  refine HQ1.out.mono ?_
  rintro e w1 ⟨rfl, h1, g1⟩
  have HST1 := Lib.hid (HST.out.drew.putm HOK2.out g1 h1)
  have hs0 : w.heap.size + 1 < W0.heap.size := by omega
  have HC2 := Lib.hid (show c (4 * m + 2) < w.heap.size from (h.ms.set _ HOK2.out).lt)
  have HO11 := Lib.hid (show Mem.Own w1 w.heap.size 173 [.pointer (some ⟨B, m * 7, none⟩)] from own_kept (W := W0.drew) HO1.out g1 (by have := HC2.out; omega))
  have HO21 := Lib.hid (show Mem.Own w1 (w.heap.size + 1) 60 _ from own_kept (W := W0.drew) HO2.out g1 (by have := HC2.out; omega))
  have HB1 := Lib.hid (show Below base w w1 from (HB0.out.mono hb).grown (grown_of_drew g1) (by have := HB0.out.size; omega) (fun j hj => by cases hj; exact h.mb _ HOK2.out))
  have HSZ1 := Lib.hid (show W0.heap.size ≤ w1.heap.size from g1.size)
  clear h1 g1 m0 m3 m4 m5 m6 m7 m8 n4
  have m0 := HO11.out.cell 0
  simp only [List.getElem?_cons_zero] at m0
  have n4 := (HST1.out.cell hm (show 4 < 7 by omega)).trans (congrArg some (show FF m c vi vg m 4 = .map (some (c (4 * m + 2))) from rfl))
  have HQ2 := Lib.hid (mclone_any (show SetO U w1.drew (c (4 * m + 2)) (orS (S (4 * m + 2)) (usesT b.fin)) from by
    have := HST1.out.ms.set _ HOK2.out
    rw [upd_at] at this
    exact this.drew))
  go_wp2_with fail
  refine wp_region_noPanic ?_
  go_region_law (first | (go_simp; go_at_call 86; refine HQ2.out.mono ?_; rintro e w2 ⟨rfl, h2, b2⟩; have b2 := below_of_drew (show Below w1.heap.size w1.drew w2 from b2); have q0 := (HO11.out.below b2 (by have := HSZ1.out; omega)).cell 0; simp only [List.getElem?_cons_zero] at q0; have n5 := ((HST1.out.below b2).cell hm (show 5 < 7 by omega)).trans (congrArg some (show FF m c vi vg m 5 = .map none from by simp [FF])); have t5 := (HST1.out.below b2).out.thaw (m * 7 + 5)))
  all_goals refine NoPanic.normal ?_
  all_goals
    have HST2 := Lib.hid (St.live HST1.out hm b2 (Nat.le_refl _) (by have := HSZ1.out; omega) (show SetO U w2 w1.heap.size _ from h2))
    obtain ⟨W2, hW2⟩ : ∃ W2, w2.setCell ⟨B, m * 7 + 5, none⟩ (.map (some w1.heap.size)) = W2 := ⟨_, rfl⟩
    have gc := grown_cell w2 ⟨B, m * 7 + 5, none⟩ (.map (some w1.heap.size))
    rw [hW2] at gc
    have hBlt : B < w.heap.size := h.out.lt
    have HO12 := Lib.hid (show Mem.Own W2 w.heap.size 173 [.pointer (some ⟨B, m * 7, none⟩)] from own_kept (HO11.out.below b2 (by have := HSZ1.out; omega)) gc (by show w.heap.size ≠ B; omega))
    have HO22 := Lib.hid (show Mem.Own W2 (w.heap.size + 1) 60 _ from own_kept (HO21.out.below b2 (by have := HSZ1.out; omega)) gc (by show w.heap.size + 1 ≠ B; omega))
    have HB2 := Lib.hid (show Below base w W2 from (HB1.out.trans (b2.mono (by have := HSZ1.out; omega))).grown gc (by have := HSZ1.out; have := b2.size; omega) (fun j hj => by cases hj; exact h.ob))
    have HSZ2 := Lib.hid (show w1.heap.size < W2.heap.size from Nat.lt_of_lt_of_le h2.lt gc.size)
    have HW2 := Lib.hid hW2
    rw [hW2] at HST2
    have m2 := (HO21.out.below b2 (by have := HSZ1.out; omega)).cell 2
    simp only [List.getElem?_cons_zero, List.getElem?_cons_succ] at m2
    have hne : ¬ (w.heap.size + 1 = B) := by omega
    have hne2 : ¬ (B = w.heap.size + 1) := by omega
    clear m0 n4 hW2 gc b2 h2
    go_wp2_with fail
    refine ((callsIn_wide (n := 2)).1 (backward_in Fence.wide 2 trivial rfl A2 b.code.length k2 _)).mono ?_
    rintro e w7 ⟨rfl, rfl⟩
    go_wp2_with fail
    rw [HW2.out]
    obtain ⟨W7, hW7⟩ : ∃ W7, W2.alloc (.cells #[.slice A2 b.code.length k2] 58) = W7 := ⟨_, rfl⟩
    have HS7 := Lib.hid (show W7.heap.size = W2.heap.size + 1 by rw [← hW7]; simp)
    have HB7 := Lib.hid (show Below W2.heap.size W2 W7 by rw [← hW7]; exact (Below.refl _ _).alloc (Nat.le_refl _) _)
    have HX7 := Lib.hid (show Mem.Own W7 W2.heap.size 58 [.slice A2 b.code.length k2] by rw [← hW7]; exact Mem.Own.made W2 _ _)
    have HST7 := Lib.hid (HST2.out.below HB7.out)
    have HO7 := Lib.hid (HO12.out.below HB7.out (by have := HSZ1.out; have := HSZ2.out; omega))
    have HBW7 := Lib.hid (HB2.out.trans (HB7.out.mono (by have := HSZ1.out; have := HSZ2.out; omega)))
    rw [hW7]
    clear hW7 hne hne2 n5 t5 q0 m2
    have hsz : hi ≤ w.heap.size ∧ w.heap.size + 1 < W7.heap.size ∧ w1.heap.size + 1 < W7.heap.size := ⟨Nat.le_trans hh hb, by have := HS7.out; have := HSZ1.out; have := HSZ2.out; omega, by have := HS7.out; have := HSZ2.out; omega⟩
    have HFW := Lib.hid (show ∀ (W : World), Below hi W7 W → ∀ k x, b.code[k]? = some x → ∃ b' o, A2 = some ⟨b', o, none⟩ ∧ b' < hi ∧ (∀ j u, (fI k)[j]? = some u → W.cell? ⟨b', o + k * 6 + j, none⟩ = some u) ∧ InstrC lo hi W (fI k) x from fun W hbw k x hx => by
      have hall : Below hi w W := (HBW7.out.mono hh).trans hbw
      obtain ⟨b', o, e1, e2, e3, e4⟩ := HFC.out k x hx
      exact ⟨b', o, e1, e2, cells_later e3 hall e2, InstrC.move (Still.of_below hall) e4⟩)
    have hE2 : W2.heap.size = w2.heap.size := by rw [← HW2.out]; simp
    generalize hfr : Go.Act.mk _ _ = fr
    have hg23 : fr.eval (.tmp 23) = .func (.func 89) #[] #[.pointer (some ⟨W2.heap.size, 0, none⟩)] := by rw [← hfr, hE2]; rfl
    refine (wpIn_wide (n := 3)).1 ?_
    refine' wpIn_rangeFunc_ownH rfl (by omega) (gf := 89) (lb := #[.pointer (some ⟨W2.heap.size, 0, none⟩)]) hg23 trivial (enters_of Tryd.func89 (by kernel_rfl) rfl)
      (backward_stops Fence.wide 2 trivial rfl (by omega) W2.heap.size lo hi hi A2 k2 b.code fI hcl (Nat.le_refl _) W7 (by have := HS7.out; omega) (by omega) (HX7.out.cell 0) (HFW.out W7 (Below.refl _ _)))
      Kpb.trans ?hkb (Below.refl _ _) (fun _ => rfl)
      (fun pre W => ∃ T X, St U W base B n (m + 1) (upd c (4 * m + 3) w1.heap.size) (upd (upd (upd (upd S (4 * m + 2) (orS (S (4 * m + 2)) (usesT b.fin))) (4 * m + 3) (orS (S (4 * m + 2)) (usesT b.fin))) (4 * m + 3) T) (4 * m + 1) X) vi li vg gr ∧
        (pre = List.range pre.length → pre.length ≤ b.code.length → T = backL (b.code.drop (b.code.length - pre.length)) (orS (S (4 * m + 2)) (usesT b.fin)) ∧ ∀ y, X y = orS (S (4 * m + 1)) (setsL (b.code.drop (b.code.length - pre.length))) y) ∧ Mem.Own W w.heap.size 173 [.pointer (some ⟨B, m * 7, none⟩)] ∧ Below base w W ∧ Below hi W7 W)
      (fun _ _ _ => False) ?hI (fun _ _ _ _ _ h _ _ => h.elim) ?h0
      (fun x a' W => ∃ Bx, W7.heap.size ≤ Bx ∧ Mem.Own W Bx 72 (fI (b.code.length - 1 - x)) ∧ a' = { tmps := ((fr.tmps.setIfInBounds 24 (.int .i64 ((b.code.length - 1 - x : Nat) : Int))).setIfInBounds 25 (.agg (fI (b.code.length - 1 - x)).toArray)).setIfInBounds 5 (.pointer (some ⟨Bx, 0, none⟩)), defers := [] })
      ?hAx ?assign ?body ?done ?stop
    case hkb =>
      intro W l o o' hl h h1 h2
      exact ⟨belowK_b (w := W7) (by omega) W l o o' hl h h1 h2, World.putObj_heap_other (by have := HS7.out; omega)⟩
    case hI =>
      rintro s A Bw row ⟨T, X, q1, q2, q3, q4, q5⟩ hg hr
      refine ⟨T, X, q1.walk hg (fun r e => ⟨fun x hx => ?_, (hr r e).2⟩), q2, own_walk q3 hg (fun r e => (hr r e).2), q4.grown hg (Nat.le_trans hb q4.size) (fun r e => by have := (hr r e).1; omega), q5.grown hg (by have := q5.size; omega) (fun r e => by have := (hr r e).1; omega)⟩
      have h9 := (HST7.out.ms.set x hx).lt
      have := (hr r e).1
      omega
    case stop =>
      rintro D c9 pre W hD _ h
      exact h.elim
    case hAx =>
      rintro x a' s A Bw row ⟨Bx, hB, hO, e⟩ hg hr
      exact ⟨Bx, hB, own_walk hO hg (fun r e => (hr r e).2), e⟩
    case h0 =>
      refine ⟨orS (S (4 * m + 2)) (usesT b.fin), S (4 * m + 1), ?_, fun _ _ => ⟨?_, ?_⟩, HO7.out, HBW7.out, Below.refl _ _⟩
      · refine ⟨HST7.out.ob, HST7.out.out, HST7.out.ms.same (fun _ _ => rfl) fun x _ => ?_, HST7.out.mb, HST7.out.ri, HST7.out.rg⟩
        by_cases e1 : x = 4 * m + 1
        · subst e1
          rw [upd_at, upd_ne _ _ (by omega), upd_ne _ _ (by omega)]
        · rw [upd_ne _ _ e1, upd_upd]
      · simp [backL]
      · intro y; simp [setsL, orS]
    case assign =>
      rintro l pre x W K hi9 hK
      obtain ⟨a9, s9, t9, A91, A92, A93, n91, c91, n92, c92, n93, c93, e9⟩ := HF6.out (b.code.length - 1 - x)
      obtain ⟨T, X, q1, q2, q3, q4, q5⟩ := hi9
      subst hfr
      unfold bkA
      rw [e9]
      have HK9 := Lib.hid hK
      clear hK
      gi_wp2
      refine HK9.out _ _ ((KeepsOthers.alloc _ _).from _) ⟨(Below.refl hi W).alloc (by have := q5.size; omega) _, Below.heap_alloc W _ _ (by have := q5.size; have := HS7.out; omega)⟩ ⟨T, X, q1.below ((Below.refl _ _).alloc (Nat.le_refl _) _), q2, q3.alloc _, q4.alloc (Nat.le_trans hb q4.size) _, q5.alloc (by have := q5.size; omega) _⟩ ⟨W.heap.size, q5.size, ?_, ?_⟩
      · rw [e9]
        exact Mem.Own.made W _ _
      · rw [e9]
        rfl
    case body =>
      rintro l pre x a' W hl9 ⟨r9, hr9⟩ ⟨T, X, q1, q2, q3, q4, q5⟩ ⟨Bx, hBx, hOx, rfl⟩ hlt
      subst hfr
      obtain ⟨j, hj⟩ : ∃ j, b.code.length - 1 - x = j := ⟨_, rfl⟩
      have hjl : j < b.code.length := by omega
      obtain ⟨y, hy⟩ : ∃ y, b.code[j]? = some y := ⟨_, List.getElem?_eq_getElem hjl⟩
      obtain ⟨b', o', eA, hb', hcs', u1', u2', u3', hfI, i1, i2, i3⟩ := HFW.out W q5 j y hy
      have hIC : InstrC lo hi W [i64 y.op, str y.dst, str y.name, u1', u2', u3'] y := ⟨u1', u2', u3', rfl, i1, i2, i3⟩
      rw [hj] at hOx
      rw [hj]
      rw [hfI] at hOx
      rw [hfI]
      have c0 := q3.cell 0
      have x0 := hOx.cell 0
      have x1 := hOx.cell 1
      have x2 := hOx.cell 2
      have x3 := hOx.cell 3
      have x4 := hOx.cell 4
      have x5 := hOx.cell 5
      simp only [List.getElem?_cons_zero, List.getElem?_cons_succ] at c0 x0 x1 x2 x3 x4 x5
      have n5 := (q1.cell hm (show 5 < 7 by omega)).trans (congrArg some (show FF (m + 1) (upd c (4 * m + 3) w1.heap.size) vi vg m 5 = .map (some w1.heap.size) from by simp [FF, upd_at]))
      have HOKL := Lib.hid (show OkM n (m + 1) (4 * m + 3) from ⟨by omega, fun h => by omega⟩)
      have HOKS := Lib.hid (show OkM n (m + 1) (4 * m + 1) from ⟨by omega, fun h => by omega⟩)
      have hTs := q1.ms.set _ HOKL.out
      rw [upd_at, upd_ne _ _ (by omega), upd_at] at hTs
      obtain ⟨hdU, hxU⟩ := HXI.out y (List.mem_of_getElem? hy)
      have HQ := Lib.hid (goBack_any hU lo hi (show SetO U W.drew w1.heap.size T from hTs.drew) _ y (InstrC.move (Still.of_below (Below.refl hi W).drew) hIC) (by have := q5.size; show hi ≤ W.heap.size; omega) (by have := HSZ1.out; omega) hxU (hU.nm _ hdU))
      have HQ1 := Lib.hid q1
      have HQ2 := Lib.hid q2
      have HQ3 := Lib.hid q3
      have HQ4 := Lib.hid q4
      have HQ5 := Lib.hid q5
      have HOX := Lib.hid hOx
      have HY := Lib.hid hy
      have HJ := Lib.hid hj
      clear q1 q2 q3 q4 q5 hOx hy hj hIC i1 i2 i3 hcs' hfI hTs
      gi_wp2
      refine Lp11.still_round 5 (by kernel_rfl) (by kernel_rfl) rfl (fun ⟨_, _, h⟩ => h) ?_
      simp only [List.take_succ_cons, List.take_zero, List.drop_succ_cons, List.drop_zero]
      repeat still_step
      try refine wpStill_nil ?_
      change wpList _ _ _ _ _ W.drew
      go_wp2_with fail
      refine HQ.out.mono ?_
      rintro e w5 ⟨rfl, h5, g5⟩
      have hst5 := HQ1.out.drew.putm HOKL.out (by rw [upd_at]; exact g5) (by rw [upd_at]; exact h5)
      rw [upd_swap _ (show 4 * m + 1 ≠ 4 * m + 3 by omega), upd_upd] at hst5
      have HST5 := Lib.hid hst5
      have hw1 := HSZ1.out
      have HK5 := Lib.hid (show KeepsFrom W7.heap.size W w5 from ((KeepsOthers.drew W).from _).trans (KeepsFrom.of_grownBy g5 (fun j e => by cases e; omega)))
      have HP5 := Lib.hid (show Kpb hi W2.heap.size W w5 from ⟨(Below.refl hi W).drew.grown g5 (by have := HQ5.out.size; show hi ≤ W.heap.size; omega) (fun j e => by cases e; omega), (grown_of_drew g5).block _ (by have := HQ5.out.size; have := HS7.out; omega) (by have := HSZ2.out; simp; omega)⟩)
      have HO5 := Lib.hid (own_kept (W := W.drew) HQ3.out g5 (by omega))
      have HX5 := Lib.hid (own_kept (W := W.drew) HOX.out g5 (by omega))
      have HB5 := Lib.hid (show Below base w w5 from (HQ4.out.drew).grown g5 (Nat.le_trans hb HQ4.out.size) (fun j e => by cases e; omega))
      have HC5 := Lib.hid (show Below hi W7 w5 from (HQ5.out.drew).grown g5 (by have := HQ5.out.size; show hi ≤ W.heap.size; omega) (fun j e => by cases e; omega))
      have HSTEP := Lib.hid (step_back HY.out HJ.out HQ2.out)
      clear h5 g5 hst5 c0 x0 x1 x2 x3 x4 x5 n5
      have c0 := HO5.out.cell 0
      have x1 := HX5.out.cell 1
      simp only [List.getElem?_cons_zero, List.getElem?_cons_succ] at c0 x1
      by_cases hd : y.dst = []
      · have e1 : (!y.dst.isEmpty) = false := by rw [hd]; rfl
        have HD := Lib.hid hd
        clear hd
        go_wp2_with fail
        gi_wp2
        refine ⟨HK5.out, HP5.out, _, _, HST5.out, ?_, HO5.out, HB5.out, HC5.out⟩
        have h := HSTEP.out
        simp only [HD.out, if_true] at h
        exact h
      · have e1 : (!y.dst.isEmpty) = true := by cases hx2 : y.dst with
          | nil => exact absurd hx2 hd
          | cons => rfl
        have HD := Lib.hid hd
        have n3 := (HST5.out.cell hm (show 3 < 7 by omega)).trans (congrArg some (show FF (m + 1) (upd c (4 * m + 3) w1.heap.size) vi vg m 3 = .map (some (c (4 * m + 1))) from by simp [FF, upd_ne]))
        have hXs := HST5.out.ms.set _ HOKS.out
        rw [upd_at, upd_ne _ _ (by omega)] at hXs
        have HA := Lib.hid (add_any hU (show SetO U w5.drew (c (4 * m + 1)) X from hXs.drew) y.dst hdU)
        clear hd hXs
        go_wp2_with fail
        gi_wp2
        refine Lp11.still_round 6 (by kernel_rfl) (by kernel_rfl) rfl (fun ⟨_, _, h⟩ => h) ?_
        simp only [List.take_succ_cons, List.take_zero, List.drop_succ_cons, List.drop_zero]
        repeat still_step
        try refine wpStill_nil ?_
        change wpList _ _ _ _ _ w5.drew
        go_wp2_with fail
        refine HA.out.mono ?_
        rintro e w6 ⟨rfl, h6, g6⟩
        have hst6 := HST5.out.drew.putm HOKS.out (by rw [upd_ne _ _ (by omega)]; exact g6) (by rw [upd_ne _ _ (by omega)]; exact h6)
        rw [upd_upd] at hst6
        have hcs : c (4 * m + 1) < w.heap.size := (h.ms.set _ (show OkM n m (4 * m + 1) from ⟨by omega, fun h => by omega⟩)).lt
        have hcb : base ≤ c (4 * m + 1) := h.mb _ (show OkM n m (4 * m + 1) from ⟨by omega, fun h => by omega⟩)
        have HST6 := Lib.hid hst6
        have HK6 := Lib.hid (show KeepsFrom W7.heap.size W w6 from (HK5.out.trans ((KeepsOthers.drew w5).from _)).trans (KeepsFrom.of_grownBy g6 (fun j e => by cases e; omega)))
        have HP6 := Lib.hid (show Kpb hi W2.heap.size W w6 from HP5.out.trans ⟨(Below.refl hi w5).drew.grown g6 (by have := HC5.out.size; show hi ≤ w5.heap.size; omega) (fun j e => by cases e; omega), (grown_of_drew g6).block _ (by have := HC5.out.size; have := HS7.out; omega) (by have := HSZ2.out; simp; omega)⟩)
        have HO6 := Lib.hid (own_kept (W := w5.drew) HO5.out g6 (by omega))
        have HB6 := Lib.hid (show Below base w w6 from (HB5.out.drew).grown g6 (Nat.le_trans hb HB5.out.size) (fun j e => by cases e; omega))
        have HC6 := Lib.hid (show Below hi W7 w6 from (HC5.out.drew).grown g6 (by have := HC5.out.size; show hi ≤ w5.heap.size; omega) (fun j e => by cases e; omega))
        clear h6 g6 hst6
        go_wp2_with fail
        gi_wp2
        refine ⟨HK6.out, HP6.out, _, _, HST6.out, ?_, HO6.out, HB6.out, HC6.out⟩
        have h := HSTEP.out
        simp only [HD.out, if_false] at h
        exact h
    case done =>
      rintro D xs W hD rfl ⟨T, X, q1, q2, q3, q4, q5⟩ hK
      subst hfr
      have hfin := q2 (by rw [List.length_range]) (by rw [List.length_range]; exact Nat.le_refl _)
      rw [List.length_range, Nat.sub_self, List.drop_zero] at hfin
      have c0 := q3.cell 0
      simp only [List.getElem?_cons_zero] at c0
      have n5 := (q1.cell hm (show 5 < 7 by omega)).trans (congrArg some (show FF (m + 1) (upd c (4 * m + 3) w1.heap.size) vi vg m 5 = .map (some w1.heap.size) from by simp [FF, upd_at]))
      have HQ1 := Lib.hid q1
      have HQ3 := Lib.hid q3
      have HQ4 := Lib.hid q4
      have HFIN := Lib.hid hfin
      have HKD := Lib.hid hK
      clear q1 q2 q3 q4 q5 hfin hK
      have HTs := Lib.hid (show SetO U W.drew w1.heap.size T from by
        have hTs := HQ1.out.ms.set _ (show OkM n (m + 1) (4 * m + 3) from ⟨by omega, fun h => by omega⟩)
        rw [upd_at, upd_ne _ _ (by omega), upd_at] at hTs
        exact hTs.drew)
      have hwlt : w.heap.size < W.heap.size := HQ3.out.lt
      have hwne : ¬ (w.heap.size = W.heap.size) := by omega
      have HKY := Lib.hid (keys_any (some w1.heap.size) W.drew)
      have HCO := Lib.hid (collect_any hU HTs.out)
      have HF6 := Lib.hid (fun (w9 : World) (b9 : Below W.heap.size W w9) => (show w9.cell? ⟨w.heap.size, 0, none⟩ = some (.pointer (some ⟨B, m * 7, none⟩)) ∧ w9.cell? ⟨B, m * 7 + 6, none⟩ = some (.slice none 0 0) ∧ w9.frozen? ⟨B, m * 7 + 6, none⟩ = false from
        ⟨(HQ3.out.below b9 HQ3.out.lt).cell 0, ((HQ1.out.below b9).cell hm (show 6 < 7 by omega)).trans (congrArg some (show FF (m + 1) (upd c (4 * m + 3) w1.heap.size) vi vg m 6 = .slice none 0 0 from hv0)), (HQ1.out.below b9).out.thaw _⟩))
      go_wp2_with fail
      refine wp_region_noPanic ?_
      go_region_law (first
        | (go_simp; go_at_call 68; refine HKY.out.mono ?_; rintro e w8 ⟨rfl, rfl⟩; have q8 := (HF6.out (W.drew.alloc (.cells #[.map (some w1.heap.size)] 94)) (((Below.refl _ W).drew).alloc (Nat.le_refl _) _)).1)
        | (go_simp; go_at_call 95; refine HCO.out.mono ?_; rintro e w9 ⟨v9, ss9, rfl, k1', k2', k3', k4', k5'⟩; have b9 := below_of_drew (show Below W.heap.size W.drew w9 from k5'); obtain ⟨A9, c9, rfl⟩ := row_form k4'; obtain ⟨q9, r9, s9⟩ := HF6.out w9 b9))
      all_goals refine NoPanic.normal ?_
      all_goals
        have hDl : D < W.heap.size := by
          by_cases hh9 : D < W.heap.size
          · exact hh9
          · have h9 := HKD.out
            rw [Array.getElem?_eq_none (by omega)] at h9
            cases h9
        have hBlt2 : B < w.heap.size := h.out.lt
        obtain ⟨Wz, hWz⟩ : ∃ Wz, w9.setCell ⟨B, m * 7 + 6, none⟩ (.slice A9 ss9.length c9) = Wz := ⟨_, rfl⟩
        have gz := grown_cell w9 ⟨B, m * 7 + 6, none⟩ (.slice A9 ss9.length c9)
        have hp := HQ1.out.push (w' := w9) hm (by rw [hv0]; exact ⟨b9.os, b9.tape, b9.output, b9.size, fun k hk _ => b9.block k hk⟩) (v' := .slice A9 ss9.length c9) (l' := ss9) (ownsRow_base_a k4' (by show base ≤ W.heap.size; have := HQ4.out.size; omega)) (.inr fun k hk => (k4'.lt k hk).1)
        rw [hWz] at gz hp
        have hK' : Wz.heap[D]? = some (.deferred (some [])) := (gz.block D (by have := b9.size; omega) (by show some D ≠ some B; simp; omega)).trans ((b9.block D hDl).trans HKD.out)
        have hwz : base ≤ Wz.heap.size := by have := HQ4.out.size; have := b9.size; have := gz.size; omega
        have gd := grownBy_putObj' Wz D (.deferred none)
        have hp2 := hp.walk gd (fun r e => by
          cases e
          refine ⟨fun x hx e2 => ?_, ⟨_, hK', rfl⟩⟩
          have := (HST7.out.ms.set x hx).lt
          omega)
        have hbz : Below base w (Wz.putObj D (.deferred none)) := ((((HQ4.out.trans (b9.mono (by have := HQ4.out.size; omega))).grown gz (by have := HQ4.out.size; have := b9.size; omega) (fun j e => by cases e; exact h.ob))).grown gd hwz (fun j e => by cases e; omega))
        rw [hWz]
        refine ⟨by simp, .inl ⟨_, _, rfl, run_takeDeferred hK', ?_⟩⟩
        refine ⟨.tuple #[], ?_, rfl, w1.heap.size, .slice A9 ss9.length c9, ss9, X, ?_, HFIN.out.2, k1', ?_, k3', hbz⟩
        · simp [results, Tryd.f65, go_sem]
        · rw [upd_upd, HFIN.out.1] at hp2
          exact hp2
        · rw [← HFIN.out.1]
          exact k2'
end Go.Proofs.YtdgmdpphimenjaaDoor.Lv12

/-
  Layer 12: blocks of which no more is known than which lead to which.
-/
namespace Go.Proofs.YtdgmdpphimenjaaDoor.Lv12
open Go.RowKit Api Mem Sh8 Go.Maps

abbrev Edge := Nat × Nat
/-- what leads to what out of block i. -/
def edgesOf (bl : List Api.Block) (i : Nat) : List Edge := match bl[i]? with
  | some b => b.fin.dest.map fun x => (i, (plc (names bl) x).getD 0)
  | none => []
def edgesTo (bl : List Api.Block) (k : Nat) : List Edge := (List.range k).flatMap (edgesOf bl)
/-- rows of where each leads, and of what leads to each. -/
def LI (E : List Edge) (x : Nat) : List Int := if x % 2 = 0 then (E.filter fun e => decide (e.1 = x / 2)).map (fun e => (e.2 : Int)) else (E.filter fun e => decide (e.2 = x / 2)).map (fun e => (e.1 : Int))
theorem LI_snoc (E : List Edge) (a t : Nat) : LI (E ++ [(a, t)]) = upd (upd (LI E) (2 * a) (LI E (2 * a) ++ [(t : Int)])) (2 * t + 1) (LI E (2 * t + 1) ++ [(a : Int)]) := funext fun x => by
  unfold upd
  by_cases e1 : x = 2 * t + 1
  · subst e1
    rw [if_pos rfl]
    have hd : decide (t = (2 * t + 1) / 2) = true := decide_eq_true (by omega)
    unfold LI
    rw [if_neg (by omega), if_neg (by omega), List.filter_append, List.map_append]
    simp [hd]
  · rw [if_neg e1]
    by_cases e2 : x = 2 * a
    · subst e2
      rw [if_pos rfl]
      unfold LI
      rw [if_pos (by omega), if_pos (by omega), List.filter_append, List.map_append]
      simp
    · rw [if_neg e2]
      unfold LI
      by_cases e3 : x % 2 = 0
      · rw [if_pos e3, if_pos e3, List.filter_append]
        have : decide (a = x / 2) = false := decide_eq_false (by omega)
        simp [this]
      · rw [if_neg e3, if_neg e3, List.filter_append]
        have : decide (t = x / 2) = false := decide_eq_false (by omega)
        simp [this]
theorem LI_len (E : List Edge) (x : Nat) : (LI E x).length ≤ E.length := by
  unfold LI
  split
  · rw [List.length_map]; exact List.length_filter_le _ _
  · rw [List.length_map]; exact List.length_filter_le _ _
theorem edgesTo_next (bl : List Api.Block) (k : Nat) : edgesTo bl (k + 1) = edgesTo bl k ++ edgesOf bl k := by
  unfold edgesTo
  rw [List.range_succ, List.flatMap_append]
  simp
theorem edges_le (bl : List Api.Block) {a b : Nat} (h : a ≤ b) : (edgesTo bl a).length ≤ (edgesTo bl b).length := by
  induction b with
  | zero => obtain rfl : a = 0 := by omega
            exact Nat.le_refl _
  | succ b ih =>
    by_cases e : a = b + 1
    · subst e; exact Nat.le_refl _
    · rw [edgesTo_next, List.length_append]
      have := ih (by omega)
      omega
theorem own_belowM {P : Program} {k : TypeId} {R : Value → Option (DataW Unit × List MemPlace)} {w w' : World} {g n B : Nat} {D : DataW Unit} (h : w.ownsMap P k R g n D) (hb : Below B w w') (hg : g < B) : w'.ownsMap P k R g n D := by
  obtain ⟨es, clock, h1, r⟩ := h
  exact ⟨es, clock, (hb.block g hg).trans h1, r⟩
theorem info_int12 : (Tryd.prog.info? 3).map (fun i => (i.zero, i.size, i.bytes)) = some (some (.int .i64 0), 1, 8) := by kernel_rfl
theorem info_blk : (Tryd.prog.info? 96).map (fun i => (i.zero, i.size, i.bytes)) = some (some (.agg #[.slice none 0 0, .slice none 0 0, .map none, .map none, .map none, .map none, .slice none 0 0]), 7, 104) := by kernel_rfl
/-- seven cells laid one by one. -/
def laid7 (w : World) (B k : Nat) (u0 u1 u2 u3 u4 u5 u6 : Value) : World := ((((((w.setCell ⟨B, k * 7, none⟩ u0).setCell ⟨B, k * 7 + 1, none⟩ u1).setCell ⟨B, k * 7 + 2, none⟩ u2).setCell ⟨B, k * 7 + 3, none⟩ u3).setCell ⟨B, k * 7 + 4, none⟩ u4).setCell ⟨B, k * 7 + 5, none⟩ u5).setCell ⟨B, k * 7 + 6, none⟩ u6
theorem laid7_grown (w : World) (B k : Nat) (u0 u1 u2 u3 u4 u5 u6 : Value) : w.grownBy (laid7 w B k u0 u1 u2 u3 u4 u5 u6) (some B) :=
  grown_trans (grown_trans (grown_trans (grown_trans (grown_trans (grown_trans (grown_cell w _ _) (grown_cell _ ⟨B, k * 7 + 1, none⟩ _)) (grown_cell _ ⟨B, k * 7 + 2, none⟩ _)) (grown_cell _ ⟨B, k * 7 + 3, none⟩ _)) (grown_cell _ ⟨B, k * 7 + 4, none⟩ _)) (grown_cell _ ⟨B, k * 7 + 5, none⟩ _)) (grown_cell _ ⟨B, k * 7 + 6, none⟩ _)
theorem laid7_out {w : World} {B n k : Nat} {F : Nat → Nat → Value} (h : OutC w B n F) (u0 u1 u2 u3 u4 u5 u6 : Value) {F' : Nat → Nat → Value} (he : ∀ i j, i < n → j < 7 → i ≠ k → F i j = F' i j) (e0 : u0 = F' k 0) (e1 : u1 = F' k 1) (e2 : u2 = F' k 2) (e3 : u3 = F' k 3) (e4 : u4 = F' k 4) (e5 : u5 = F' k 5) (e6 : u6 = F' k 6) : OutC (laid7 w B k u0 u1 u2 u3 u4 u5 u6) B n F' := by
  have h0 := h.store (i := k) (j := 0) (by omega) u0
  have h1 := h0.store (i := k) (j := 1) (by omega) u1
  have h2 := h1.store (i := k) (j := 2) (by omega) u2
  have h3 := h2.store (i := k) (j := 3) (by omega) u3
  have h4 := h3.store (i := k) (j := 4) (by omega) u4
  have h5 := h4.store (i := k) (j := 5) (by omega) u5
  have h6 := h5.store (i := k) (j := 6) (by omega) u6
  refine h6.same fun i j hi hj => ?_
  unfold upd2
  by_cases e : i = k
  · subst e
    simp only [true_and]
    rcases (by omega : j = 0 ∨ j = 1 ∨ j = 2 ∨ j = 3 ∨ j = 4 ∨ j = 5 ∨ j = 6) with r | r | r | r | r | r | r <;> subst r <;> simp [*]
  · simp only [e, false_and, if_false]
    exact he i j hi hj e
/-- one more block, with three new maps. -/
theorem laid_next {U : List Wd} {w wr : World} {B n k : Nat} {c : Nat → Nat} (hk : k < n) (hB : w.heap.size ≤ B)
    (hO : OutC wr B n (fun i j => if i < k then FF 0 c (fun _ => .slice none 0 0) (fun _ => .slice none 0 0) i j else ([Value.slice none 0 0, .slice none 0 0, .map none, .map none, .map none, .map none, .slice none 0 0] : List Value).getD j default)) (hM : MS U wr k 0 c (fun _ _ => false)) (hc : ∀ x, OkM k 0 x → w.heap.size ≤ c x) (hb : Below w.heap.size w wr) :
    ∃ c' : Nat → Nat, OutC ((((laid7 wr B k (.slice none 0 0) (.slice none 0 0) (.map (some wr.heap.size)) (.map (some (wr.heap.size + 1))) (.map (some (wr.heap.size + 1 + 1))) (.map none) (.slice none 0 0)).alloc (.map #[] 0)).alloc (.map #[] 0)).alloc (.map #[] 0)) B n (fun i j => if i < k + 1 then FF 0 c' (fun _ => .slice none 0 0) (fun _ => .slice none 0 0) i j else ([Value.slice none 0 0, .slice none 0 0, .map none, .map none, .map none, .map none, .slice none 0 0] : List Value).getD j default) ∧
      MS U ((((laid7 wr B k (.slice none 0 0) (.slice none 0 0) (.map (some wr.heap.size)) (.map (some (wr.heap.size + 1))) (.map (some (wr.heap.size + 1 + 1))) (.map none) (.slice none 0 0)).alloc (.map #[] 0)).alloc (.map #[] 0)).alloc (.map #[] 0)) (k + 1) 0 c' (fun _ _ => false) ∧ (∀ x, OkM (k + 1) 0 x → w.heap.size ≤ c' x) ∧
      Below w.heap.size w ((((laid7 wr B k (.slice none 0 0) (.slice none 0 0) (.map (some wr.heap.size)) (.map (some (wr.heap.size + 1))) (.map (some (wr.heap.size + 1 + 1))) (.map none) (.slice none 0 0)).alloc (.map #[] 0)).alloc (.map #[] 0)).alloc (.map #[] 0)) := by
  have hBl := hO.lt
  have g7 := laid7_grown wr B k (.slice none 0 0) (.slice none 0 0) (.map (some wr.heap.size)) (.map (some (wr.heap.size + 1))) (.map (some (wr.heap.size + 1 + 1))) (.map none) (.slice none 0 0)
  have o7 := laid7_out hO (k := k) (.slice none 0 0) (.slice none 0 0) (.map (some wr.heap.size)) (.map (some (wr.heap.size + 1))) (.map (some (wr.heap.size + 1 + 1))) (.map none) (.slice none 0 0) (F' := fun i j => if i < k + 1 then FF 0 (upd (upd (upd c (4 * k) wr.heap.size) (4 * k + 1) (wr.heap.size + 1)) (4 * k + 2) (wr.heap.size + 1 + 1)) (fun _ => .slice none 0 0) (fun _ => .slice none 0 0) i j else ([Value.slice none 0 0, .slice none 0 0, .map none, .map none, .map none, .map none, .slice none 0 0] : List Value).getD j default)
    (fun i j _ _ hne => by
      by_cases e : i < k
      · rw [if_pos e, if_pos (by omega)]
        unfold FF
        have q : ∀ z, z < 4 * k → upd (upd (upd c (4 * k) wr.heap.size) (4 * k + 1) (wr.heap.size + 1)) (4 * k + 2) (wr.heap.size + 1 + 1) z = c z := fun z hz => by rw [upd_ne _ _ (by omega), upd_ne _ _ (by omega), upd_ne _ _ (by omega)]
        rw [q _ (by omega), q _ (by omega), q _ (by omega), q _ (by omega)]
      · rw [if_neg e, if_neg (by omega)])
    (by rw [if_pos (by omega)]; rfl) (by rw [if_pos (by omega)]; rfl)
    (by rw [if_pos (by omega)]; simp only [FF]; rw [upd_ne _ _ (by omega : 4 * k ≠ 4 * k + 2), upd_ne _ _ (by omega : 4 * k ≠ 4 * k + 1), upd_at]; rfl)
    (by rw [if_pos (by omega)]; simp only [FF]; rw [upd_ne _ _ (by omega : 4 * k + 1 ≠ 4 * k + 2), upd_at]; rfl)
    (by rw [if_pos (by omega)]; simp only [FF]; rw [upd_at]; rfl)
    (by rw [if_pos (by omega)]; simp [FF]) (by rw [if_pos (by omega)]; rfl)
  have hs7 : (laid7 wr B k (.slice none 0 0) (.slice none 0 0) (.map (some wr.heap.size)) (.map (some (wr.heap.size + 1))) (.map (some (wr.heap.size + 1 + 1))) (.map none) (.slice none 0 0)).heap.size = wr.heap.size := by simp [laid7]
  generalize laid7 wr B k (.slice none 0 0) (.slice none 0 0) (.map (some wr.heap.size)) (.map (some (wr.heap.size + 1))) (.map (some (wr.heap.size + 1 + 1))) (.map none) (.slice none 0 0) = w2 at *
  have m7 := hM.row g7 fun b e => by cases e; exact hO.isRow
  have ba : Below w2.heap.size w2 (((w2.alloc (.map #[] 0)).alloc (.map #[] 0)).alloc (.map #[] 0)) := (((Below.refl _ _).alloc (Nat.le_refl _) _).alloc (by simp) _).alloc (by simp; omega) _
  have s1 := ((SetO.made U w2).alloc (.map #[] 0)).alloc (.map #[] 0)
  have s2 := (SetO.made U (w2.alloc (.map #[] 0))).alloc (.map #[] 0)
  have s3 := SetO.made U ((w2.alloc (.map #[] 0)).alloc (.map #[] 0))
  have e2 : (w2.alloc (.map #[] 0)).heap.size = wr.heap.size + 1 := by simp [hs7]
  have e3 : ((w2.alloc (.map #[] 0)).alloc (.map #[] 0)).heap.size = wr.heap.size + 1 + 1 := by simp [hs7]
  rw [hs7] at s1
  rw [e2] at s2
  rw [e3] at s3
  have hM2 := (m7.three ba (a := wr.heap.size) (b := wr.heap.size + 1) (d := wr.heap.size + 1 + 1) (by omega) (by omega) (by omega) (by omega) (by omega) (by omega) s1 s2 s3)
  refine ⟨_, o7.below ba, hM2.same (fun _ _ => rfl) (fun x _ => ?_), fun x hx => ?_, (hb.grown g7 hb.size (fun j e => by cases e; exact hB)).trans (ba.mono (by rw [hs7]; exact hb.size))⟩
  · funext y
    unfold upd
    repeat (split; rfl)
    rfl
  · have hbs := hb.size
    unfold upd
    split
    · omega
    · split
      · omega
      · split
        · omega
        · exact hc x ⟨by have := hx.1; have := fun h3 => hx.2 h3; omega, hx.2⟩
/-- what linked answers. -/
def LinkP (U : List Wd) (bl : List Api.Block) (w : World) (e : Ending) (w' : World) : Prop := ∃ B c vi, e = .returned (.slice (some ⟨B, 0, none⟩) bl.length bl.length) ∧ St U w' w.heap.size B bl.length 0 c (fun _ _ => false) vi (LI (edgesTo bl bl.length)) (fun _ => .slice none 0 0) (fun _ => []) ∧ Below w.heap.size w w'
set_option maxRecDepth 100000 in
set_option maxHeartbeats 8000000 in
theorem linked_any (U : List Wd) (lo hi : Nat) (w : World) (cs : List Value) (f : Api.Func) (hf : FuncC lo hi w cs f) (hh : hi ≤ w.heap.size) (hG : ∀ b ∈ f.blocks, ∀ x ∈ b.fin.dest, x.length ≤ 140737488351232) (gm nm9 : Nat) (hgm : w.ownsMap Tryd.prog 9 (plainElem Tryd.prog 3) gm nm9 (tab 0 (names f.blocks))) (hn0 : 0 < f.blocks.length) (hn : f.blocks.length ≤ 1000000) (htot : (edgesTo f.blocks f.blocks.length).length ≤ 1000000000000)
    (hR : ∀ b ∈ f.blocks, ∀ x ∈ b.fin.dest, x ∈ names f.blocks) :
    Calls Tryd.prog 63 #[.agg cs.toArray, .map (some gm)] w (LinkP U f.blocks w) := by
  obtain ⟨u1, u2, u3, rfl, kp, kv, kb⟩ := hf
  obtain ⟨nm, rs, ps, vs, bl⟩ := f
  simp only at kp kv kb hG hgm hn0 hn htot hR ⊢
  obtain ⟨A1, k1, rfl⟩ := kp.form
  obtain ⟨A2, k2, rfl⟩ := kv.form
  obtain ⟨A3, k3, rfl⟩ := kb.form
  obtain ⟨W, hW⟩ : ∃ W, w.alloc (.cells #[str nm, str rs, .slice A1 ps.length k1, .slice A2 vs.length k2, .slice A3 bl.length k3] 37) = W := ⟨_, rfl⟩
  obtain ⟨o1, b1, z1⟩ := box8 (c := [str nm, str rs, .slice A1 ps.length k1, .slice A2 vs.length k2, .slice A3 bl.length k3]) hW
  have KB := Lib.hid kb
  have HO := Lib.hid o1
  have HB := Lib.hid b1
  have HW := Lib.hid hW
  have GB := Lib.hid hG
  have HR := Lib.hid hR
  have HM := Lib.hid hgm
  have hgl := hgm.lt
  have zlt := o1.lt
  have HZ1 := Lib.hid z1
  obtain ⟨ib, hib, hz0, hz1, hz2⟩ := info_parts info_blk
  obtain ⟨M, hM⟩ : ∃ M, M = madeCells (Value.agg #[.slice none 0 0, .slice none 0 0, .map none, .map none, .map none, .map none, .slice none 0 0]).cells (((bl.length : Nat) : Int).toNat * ib.size) := ⟨_, rfl⟩
  have hmk : ∀ W : World, (Instr.makeSlice 90 (.int .i64 (bl.length : Int)) (.int .i64 (bl.length : Int))).run Tryd.prog W = .ok (.slice (some ⟨W.heap.size, 0, none⟩) bl.length bl.length) (W.alloc (.cells M 96)) := fun W => by
    have h := run_make (P := Tryd.prog) W 90 96 ib _ Tryd.underlying90 hib hz0 .i64 .i64 (bl.length : Int) (bl.length : Int) (by omega) (by omega) (by rw [hz2]; omega) (by omega)
    rw [← hM] at h
    simpa using h
  have HMM := Lib.hid (show M.size = bl.length * 7 ∧ ∀ i j, i < bl.length → j < 7 → M.toList[i * 7 + j]? = some (([Value.slice none 0 0, .slice none 0 0, .map none, .map none, .map none, .map none, .slice none 0 0] : List Value).getD j default) from by
    have hM2 : M = madeCells #[.slice none 0 0, .slice none 0 0, .map none, .map none, .map none, .map none, .slice none 0 0] (((bl.length : Nat) : Int).toNat * ib.size) := hM
    rw [hM2, hz1]
    refine ⟨by rw [size_madeCells]; simp, fun i j hi hj => ?_⟩
    have h7 : (i * 7 + j) % 7 = j := by omega
    have hl : i * 7 + j < bl.length * 7 := by omega
    rcases (by omega : j = 0 ∨ j = 1 ∨ j = 2 ∨ j = 3 ∨ j = 4 ∨ j = 5 ∨ j = 6) with r | r | r | r | r | r | r <;> subst r <;> (rw [Array.getElem?_toList]; simp [madeCells, hl, h7, hi, Array.getElem?_range, Nat.mul_mod_left]))
  clear o1 b1 hW kp kv kb hG hR hgm hM z1
  go_enter Tryd.func63, Tryd.ntmps63
  go_wp2_with fail
  rw [HW.out]
  have f4 := HO.out.cell 4
  simp only [List.getElem?_cons_succ, List.getElem?_cons_zero] at f4
  go_wp2_with fail
  have hbW : Below W.heap.size W (W.alloc (.cells M 96)) := (Below.refl _ _).alloc (Nat.le_refl _) _
  have HL0 := Lib.hid (show ∃ c : Nat → Nat, OutC (W.alloc (.cells M 96)) (w.heap.size + 1) bl.length (fun i j => if i < 0 then FF 0 c (fun _ => .slice none 0 0) (fun _ => .slice none 0 0) i j else ([Value.slice none 0 0, .slice none 0 0, .map none, .map none, .map none, .map none, .slice none 0 0] : List Value).getD j default) ∧ MS U (W.alloc (.cells M 96)) 0 0 c (fun _ _ => false) ∧ (∀ x, OkM 0 0 x → W.heap.size ≤ c x) ∧ Below W.heap.size W (W.alloc (.cells M 96)) from
    ⟨fun _ => 0, by rw [← HZ1.out]; exact ⟨M.toList, by have := Mem.Own.made W 96 M.toList; simpa using this, by rw [Array.length_toList]; exact HMM.out.1, fun i j hi hj => by show _ = some (if i < 0 then _ else _); rw [if_neg (by omega)]; exact HMM.out.2 i j hi hj⟩, ⟨fun x hx => (by have := hx.1; omega), fun x y hx => (by have := hx.1; omega)⟩, fun x hx => (by have := hx.1; omega), hbW⟩)
  have hWB : w.heap.size + 1 < (W.alloc (.cells M 96)).heap.size := by have := HZ1.out; simp; omega
  clear hbW f4
  have hmm := @run_makeMap Tryd.prog
  go_loopw [18] (fun iv wr => ∃ k : Nat, k ≤ bl.length ∧ iv = .int .i64 k ∧ Hid (∃ c : Nat → Nat, OutC wr (w.heap.size + 1) bl.length (fun i j => if i < k then FF 0 c (fun _ => .slice none 0 0) (fun _ => .slice none 0 0) i j else ([Value.slice none 0 0, .slice none 0 0, .map none, .map none, .map none, .map none, .slice none 0 0] : List Value).getD j default) ∧ MS U wr k 0 c (fun _ _ => false) ∧ (∀ x, OkM k 0 x → W.heap.size ≤ c x) ∧ Below W.heap.size W wr)) (fun iv _ => bl.length - (intOf iv).toNat)
  case atStart => exact ⟨0, Nat.zero_le _, rfl, HL0⟩
  case round =>
  clear HL0 hWB
  obtain ⟨k, hk, rfl, HL⟩ := hrel
  by_cases hlt : k < bl.length
  · obtain ⟨c, hO, hM9, hc9, hbw⟩ := HL.out
    have hz := fun j (hj : j < 7) => (hO.cell hlt hj).trans (congrArg some (if_neg (Nat.lt_irrefl k)))
    have y0 := hz 0 (by omega)
    have y1 := hz 1 (by omega)
    have y2 := hz 2 (by omega)
    have y3 := hz 3 (by omega)
    have y4 := hz 4 (by omega)
    have y5 := hz 5 (by omega)
    have y6 := hz 6 (by omega)
    have z0 := hO.thaw (k * 7)
    have z1' := hO.thaw (k * 7 + 1)
    have z2 := hO.thaw (k * 7 + 2)
    have z3 := hO.thaw (k * 7 + 3)
    have z4 := hO.thaw (k * 7 + 4)
    have z5 := hO.thaw (k * 7 + 5)
    have z6 := hO.thaw (k * 7 + 6)
    simp only [List.getD_cons_zero, List.getD_cons_succ, Nat.add_zero] at y0 y1 y2 y3 y4 y5 y6
    have hBl := hO.lt
    have hBl1 : w.heap.size + 1 < wr.heap.size + 1 := by omega
    have hBl2 : w.heap.size + 1 < wr.heap.size + 1 + 1 := by omega
    have HHO := Lib.hid hO
    have HMS := Lib.hid hM9
    have HCC := Lib.hid hc9
    have HBW := Lib.hid hbw
    clear hz hO hM9 hc9 hbw
    go_wp2_with fail
    go_roundw
    case rel =>
      obtain ⟨c', q1, q2, q3, q4⟩ := laid_next hlt (by have := HZ1.out; omega) HHO.out HMS.out HCC.out HBW.out
      exact ⟨k + 1, by omega, by go_num, Lib.hid ⟨c', q1, q2, q3, q4⟩⟩
    case measure => simp [intOf]; omega
  · obtain rfl : k = bl.length := by omega
    obtain ⟨c, hO, hM9, hc9, hbw⟩ := HL.out
    have hst : St U wr W.heap.size (w.heap.size + 1) bl.length 0 c (fun _ _ => false) (fun _ => .slice none 0 0) (LI []) (fun _ => .slice none 0 0) (fun _ => []) :=
      ⟨by have := HZ1.out; omega, hO.same fun i j hi _ => if_pos hi, hM9, hc9, (Fam.nil _ _ _ _ _).same (fun _ _ => rfl) (fun x _ => by unfold LI; split <;> rfl), Fam.nil _ _ _ _ _⟩
    obtain ⟨ii, hii, hi0, hi1, hi2⟩ := info_parts info_int12
    have HII := Lib.hid (show _ ∧ _ ∧ _ ∧ _ from ⟨hii, hi0, hi1, hi2⟩)
    clear hii hi0 hi1 hi2
    have HL2 := Lib.hid (show ∃ vi, St U wr W.heap.size (w.heap.size + 1) bl.length 0 c (fun _ _ => false) vi (LI (edgesTo bl 0)) (fun _ => .slice none 0 0) (fun _ => []) ∧ Below W.heap.size W wr from ⟨_, hst, hbw⟩)
    have HTOT := Lib.hid htot
    clear HL hO hM9 hc9 hbw hst htot
    go_wp2_with fail
    go_loopw [31] (fun iv wr => ∃ k : Nat, k ≤ bl.length ∧ iv = .int .i64 k ∧ Hid (∃ vi, St U wr W.heap.size (w.heap.size + 1) bl.length 0 c (fun _ _ => false) vi (LI (edgesTo bl k)) (fun _ => .slice none 0 0) (fun _ => []) ∧ Below W.heap.size W wr)) (fun iv _ => bl.length - (intOf iv).toNat)
    case atStart => exact ⟨0, Nat.zero_le _, rfl, HL2⟩
    case round =>
    clear HL2
    obtain ⟨k, hk, rfl, HL⟩ := hrel
    by_cases hlt : k < bl.length
    · obtain ⟨vi, hst, hbw⟩ := HL.out
      obtain ⟨b, hb⟩ : ∃ b, bl[k]? = some b := ⟨_, List.getElem?_eq_getElem hlt⟩
      obtain ⟨b3, o3, rfl, hb3, cs3, hcl3, hcs3, x1, x2, cs4, e4, kph, kco, x4, e5, kto⟩ := row_at KB.out hb
      subst e5
      subst e4
      obtain ⟨A5, k5, rfl⟩ := Row.form kto
      obtain ⟨m0, m1, m2, m3, m4, m5, m6, m7, m8⟩ := at9 (cells_later hcs3 (((HB.out.trans (hbw.mono (by have := HZ1.out; omega)))).mono hh) hb3)
      have f4 := (HO.out.below hbw zlt).cell 4
      simp only [List.getElem?_cons_succ, List.getElem?_cons_zero] at f4
      have hE0 : edgesOf bl k = b.fin.dest.map fun x => (k, (plc (names bl) x).getD 0) := by unfold edgesOf; rw [hb]
      have hld : b.fin.dest.length ≤ 1000000000000 := by
        have h1 : (edgesOf bl k).length ≤ (edgesTo bl bl.length).length := by
          have := edgesTo_next bl k
          have h2 : (edgesTo bl (k + 1)).length ≤ (edgesTo bl bl.length).length := edges_le bl (by omega)
          rw [this, List.length_append] at h2
          omega
        rw [hE0, List.length_map] at h1
        have := HTOT.out
        omega
      have HL3 := Lib.hid (show ∃ vi, St U wr W.heap.size (w.heap.size + 1) bl.length 0 c (fun _ _ => false) vi (LI (edgesTo bl k ++ (edgesOf bl k).take 0)) (fun _ => .slice none 0 0) (fun _ => []) ∧ Below W.heap.size W wr from ⟨vi, by rw [List.take_zero, List.append_nil]; exact hst, hbw⟩)
      have HE0 := Lib.hid hE0
      have HBK := Lib.hid (List.mem_of_getElem? hb)
      have HTO := Lib.hid (Texts.move (Still.of_below (Below.refl _ w)) kto)
      clear hst hbw HL hE0 hb kph kco kto hcs3
      go_wp2_with fail
      go_loopw [42] (fun iv wr => ∃ j : Nat, j ≤ b.fin.dest.length ∧ iv = .int .i64 j ∧ Hid (∃ vi, St U wr W.heap.size (w.heap.size + 1) bl.length 0 c (fun _ _ => false) vi (LI (edgesTo bl k ++ (edgesOf bl k).take j)) (fun _ => .slice none 0 0) (fun _ => []) ∧ Below W.heap.size W wr)) (fun iv _ => b.fin.dest.length - (intOf iv).toNat)
      case atStart => exact ⟨0, Nat.zero_le _, rfl, HL3⟩
      case round =>
      clear HL3 m0 m1 m2 m3 m4 m5 m6 m7 m8 f4
      obtain ⟨j, hj, rfl, HL⟩ := hrel
      by_cases hlj : j < b.fin.dest.length
      · obtain ⟨vi, hst, hbw⟩ := HL.out
        obtain ⟨x, hx⟩ : ∃ x, b.fin.dest[j]? = some x := ⟨_, List.getElem?_eq_getElem hlj⟩
        obtain ⟨b6, o6, rfl, hb6, cs6, hcl6, hcs6, rfl⟩ := row_at HTO.out hx
        have hbwf : Below hi w wr := (HB.out.trans (hbw.mono (by have := HZ1.out; omega))).mono hh
        have n0 := cells_later hcs6 hbwf hb6 0 _ rfl
        simp only [Nat.mul_one, Nat.add_zero] at n0
        have hxm := List.mem_of_getElem? hx
        obtain ⟨t, ht⟩ : ∃ t, plc (names bl) x = some t := by
          cases e : plc (names bl) x with
          | none => exact absurd (HR.out b HBK.out x hxm) (plc_none.1 e)
          | some t => exact ⟨t, rfl⟩
        have htl : t < bl.length := by have := plc_lt ht; rwa [names_len] at this
        have HKEY := Lib.hid (key_at (GB.out b HBK.out x hxm))
        have HT := Lib.hid (show (tab 0 (names bl)).atKey (kS x) (dI 0) = dI ((t : Nat) : Int) ∧ has (tab 0 (names bl)) (kS x) = true from by
          rw [tab_at, tab_has, ht]
          simp)
        have HMW := Lib.hid (own_belowM HM.out (HB.out.trans (hbw.mono (by have := HZ1.out; omega))) hgl)
        have hnx : (edgesOf bl k).take (j + 1) = (edgesOf bl k).take j ++ [(k, t)] := take_at (by rw [HE0.out, List.getElem?_map, hx]; simp [ht])
        have hgr1 := hst.ri.own (2 * k) (by omega)
        obtain ⟨A7, k7, hv7⟩ := row_form hgr1
        rw [hv7] at hgr1
        obtain ⟨E, hE⟩ : ∃ E, edgesTo bl k ++ (edgesOf bl k).take j = E := ⟨_, rfl⟩
        rw [hE] at hst hgr1 hv7
        have hEl : E.length ≤ 1000000000000 := by
          have h1 : (edgesTo bl k ++ (edgesOf bl k).take j).length ≤ (edgesTo bl (k + 1)).length := by
            rw [edgesTo_next, List.length_append, List.length_append]
            have := List.length_take_le j (edgesOf bl k)
            have := List.length_take_le' j (edgesOf bl k)
            omega
          have h2 := edges_le bl (show k + 1 ≤ bl.length by omega)
          have := HTOT.out
          rw [← hE]
          omega
        obtain ⟨q1, hq1⟩ : ∃ q, LI E (2 * k) = q := ⟨_, rfl⟩
        obtain ⟨q2, hq2⟩ : ∃ q, LI E (2 * t + 1) = q := ⟨_, rfl⟩
        have hql1 : q1.length ≤ 1000000000000 := by rw [← hq1]; exact Nat.le_trans (LI_len _ _) hEl
        have hql2 : q2.length ≤ 1000000000000 := by rw [← hq2]; exact Nat.le_trans (LI_len _ _) hEl
        rw [hq1] at hgr1 hv7
        have hgr2 := hst.ri.own (2 * t + 1) (by omega)
        rw [hq2] at hgr2
        obtain ⟨A8, k8, hv8⟩ := row_form hgr2
        have n7 := (hst.cell (i := k) hlt (show 0 < 7 by omega)).trans (congrArg some (show FF 0 c vi (fun _ => .slice none 0 0) k 0 = .slice A7 q1.length k7 from hv7))
        have n8 := (hst.cell (i := t) htl (show 1 < 7 by omega)).trans (congrArg some (show FF 0 c vi (fun _ => .slice none 0 0) t 1 = .slice A8 q2.length k8 from hv8))
        simp only [Nat.add_zero] at n7
        have HST := Lib.hid hst
        have HBW := Lib.hid hbw
        have HQ1 := Lib.hid hq1
        have HQ2 := Lib.hid hq2
        have HV7 := Lib.hid hv7
        have HV8 := Lib.hid hv8
        have HG1 := Lib.hid hgr1
        have HEE := Lib.hid hE
        have HNX := Lib.hid hnx
        have hW1 := hbw.size
        have hne1 : ¬ (t * 7 + 1 = k * 7) := by omega
        have hne2 : ¬ (k * 7 = t * 7 + 1) := by omega
        clear hx hst hbw hbwf hE hq1 hq2 hv7 hv8 hgr1 hgr2 hnx HL hcs6 hEl
        have HARM := Lib.hid (show ∀ (A9 : Option Addr) (k9 : Nat) (w9 : World), w9.ownsRow W.heap.size 3 1 (.slice A9 (q1.length + 1) k9) (q1.length + 1) (q1.map i64 ++ [i64 (t : Int)]) → wr.grownBy w9 (Value.slice A7 q1.length k7).ownBlock → ((Value.slice A9 (q1.length + 1) k9).ownBlock = (Value.slice A7 q1.length k7).ownBlock ∨ ∀ k, (Value.slice A9 (q1.length + 1) k9).ownBlock = some k → wr.heap.size ≤ k) →
            w9.cell? ⟨w.heap.size + 1, k * 7, none⟩ = some (.slice A7 q1.length k7) ∧ w9.frozen? ⟨w.heap.size + 1, k * 7, none⟩ = false ∧ w9.cell? ⟨w.heap.size + 1, t * 7 + 1, none⟩ = some (.slice A8 q2.length k8) ∧ (w9.setCell ⟨w.heap.size + 1, k * 7, none⟩ (.slice A9 (q1.length + 1) k9)).cell? ⟨w.heap.size + 1, t * 7 + 1, none⟩ = some (.slice A8 q2.length k8) ∧
            Hid (St U (w9.setCell ⟨w.heap.size + 1, k * 7, none⟩ (.slice A9 (q1.length + 1) k9)) W.heap.size (w.heap.size + 1) bl.length 0 c (fun _ _ => false) (upd vi (2 * k) (.slice A9 (q1.length + 1) k9)) (upd (LI E) (2 * k) (q1 ++ [(t : Int)])) (fun _ => .slice none 0 0) (fun _ => [])) ∧
            Hid ((w9.setCell ⟨w.heap.size + 1, k * 7, none⟩ (.slice A9 (q1.length + 1) k9)).ownsRow W.heap.size 3 1 (.slice A8 q2.length k8) q2.length (q2.map i64)) ∧ W.heap.size ≤ (w9.setCell ⟨w.heap.size + 1, k * 7, none⟩ (.slice A9 (q1.length + 1) k9)).heap.size ∧ Hid (Below W.heap.size W (w9.setCell ⟨w.heap.size + 1, k * 7, none⟩ (.slice A9 (q1.length + 1) k9))) from by
          intro A9 k9 w9 h9 g9 f9
          have hg9 : wr.grownBy w9 (vi (2 * k)).ownBlock := by rw [HV7.out]; exact g9
          have o9 := HST.out.outI (x := 2 * k) (by omega) hg9
          have n9 := (o9.cell hlt (show 0 < 7 by omega)).trans (congrArg some (show FF 0 c vi (fun _ => .slice none 0 0) k 0 = .slice A7 q1.length k7 from HV7.out))
          have st1 := HST.out.pushi (x := 2 * k) (by omega) hg9 (v' := .slice A9 (q1.length + 1) k9) (l' := q1 ++ [(t : Int)]) (by simpa using h9) (by rw [HV7.out]; exact f9)
          rw [show 2 * k / 2 * 7 + 2 * k % 2 = k * 7 by omega] at st1
          have n10 := (st1.cell htl (show 1 < 7 by omega)).trans (congrArg some (show FF 0 c (upd vi (2 * k) (.slice A9 (q1.length + 1) k9)) (fun _ => .slice none 0 0) t 1 = .slice A8 q2.length k8 from (upd_ne _ _ (by omega)).trans HV8.out))
          have n11 := (o9.cell htl (show 1 < 7 by omega)).trans (congrArg some (show FF 0 c vi (fun _ => .slice none 0 0) t 1 = .slice A8 q2.length k8 from HV8.out))
          have hg2 := st1.ri.own (2 * t + 1) (by omega)
          rw [upd_ne _ _ (by omega), upd_ne _ _ (by omega), HV8.out, HQ2.out] at hg2
          have gs := g9.size
          exact ⟨n9, o9.thaw _, n11, n10, Lib.hid st1, Lib.hid hg2, by simp; omega, Lib.hid ((HBW.out.grown g9 hW1 (fun j hj => (HG1.out.lt j hj).1)).grown (grown_cell w9 ⟨w.heap.size + 1, k * 7, none⟩ (.slice A9 (q1.length + 1) k9)) (by omega) (fun j hj => by cases hj; have := HZ1.out; simp only; omega))⟩)
        go_wp2_with (first
          | (at_lookup; refine look_ok _ rfl _ _ 140 rfl 9 3 lawS Tryd.underlying140 Tryd.underlying3 (zeroI _) gm _ _ rfl HMW.out _ _ rfl HKEY.out _ HT.out.1 _ HT.out.2 ?_)
          | (at_builtin; refine wpList_growP rfl _ _ 92 rfl W.heap.size 3 1 ii _ 8 Tryd.underlying92 HII.out.1 HII.out.2.1 HII.out.2.2.1 HII.out.2.2.2 rfl Nat.one_pos _ _ _ rfl HG1.out [i64 (t : Int)] _ rfl rfl rfl (by intro u hu; rw [List.mem_singleton] at hu; subst hu; rfl) (by omega) (by omega) hW1 ?_; intro v9 w9 h9 g9 f9; obtain ⟨A9, k9, rfl⟩ := row_form h9; obtain ⟨n9, t9, n11, n10, HS1, HG2, hW9, HB9⟩ := HARM.out A9 k9 w9 h9 g9 f9; clear h9 g9 f9)
          | (at_builtin; refine wpList_growP rfl _ _ 92 rfl W.heap.size 3 1 ii _ 8 Tryd.underlying92 HII.out.1 HII.out.2.1 HII.out.2.2.1 HII.out.2.2.2 rfl Nat.one_pos _ _ _ rfl HG2.out [i64 (k : Int)] _ (by simp) rfl rfl (by intro u hu; rw [List.mem_singleton] at hu; subst hu; rfl) (by omega) (by omega) hW9 ?_; intro v12 w12 h12 g12 f12; obtain ⟨A12, k12, rfl⟩ := row_form h12; have hg12 := (show (w9.setCell ⟨w.heap.size + 1, k * 7, none⟩ (.slice A9 (q1.length + 1) k9)).grownBy w12 (upd vi (2 * k) (.slice A9 (q1.length + 1) k9) (2 * t + 1)).ownBlock from (by rw [upd_ne _ _ (by omega), HV8.out]; exact g12)); have o12 := HS1.out.outI (x := 2 * t + 1) (by omega) hg12; have n12 := (o12.cell htl (show 1 < 7 by omega)).trans (congrArg some (show FF 0 c (upd vi (2 * k) (.slice A9 (q1.length + 1) k9)) (fun _ => .slice none 0 0) t 1 = .slice A8 q2.length k8 from (upd_ne _ _ (by omega)).trans HV8.out)); have t12 := o12.thaw (t * 7 + 1); have H12 := Lib.hid h12; have G12 := Lib.hid g12; have GG12 := Lib.hid hg12; have F12 := Lib.hid f12; have O12 := Lib.hid o12; clear h12 g12 f12 hg12 o12)
          | go_in)
        go_roundw
        case rel =>
          have st2 := HS1.out.pushi (x := 2 * t + 1) (by omega) GG12.out (v' := .slice A12 (q2.length + 1) k12) (l' := q2 ++ [(k : Int)]) (by simpa using H12.out) (by rw [upd_ne _ _ (by omega), HV8.out]; exact F12.out)
          rw [show (2 * t + 1) / 2 * 7 + (2 * t + 1) % 2 = t * 7 + 1 by omega] at st2
          have hb12 := HB9.out.grown G12.out hW9 (fun j hj => (HG2.out.lt j hj).1)
          refine ⟨j + 1, by omega, by go_num, Lib.hid ⟨upd (upd vi (2 * k) (.slice A9 (q1.length + 1) k9)) (2 * t + 1) (.slice A12 (q2.length + 1) k12), ?_, hb12.grown (grown_cell w12 ⟨w.heap.size + 1, t * 7 + 1, none⟩ (.slice A12 (q2.length + 1) k12)) (Nat.le_trans hW9 G12.out.size) (fun j hj => by cases hj; have := HZ1.out; simp only; omega)⟩⟩
          rw [HNX.out, ← List.append_assoc, HEE.out, LI_snoc, HQ1.out, HQ2.out]
          exact st2
        case measure => simp [intOf]; omega
      · obtain rfl : j = b.fin.dest.length := by omega
        have HL9 := Lib.hid (show ∃ vi, St U wr W.heap.size (w.heap.size + 1) bl.length 0 c (fun _ _ => false) vi (LI (edgesTo bl (k + 1))) (fun _ => .slice none 0 0) (fun _ => []) ∧ Below W.heap.size W wr from by
          obtain ⟨vi, q1, q2⟩ := HL.out
          refine ⟨vi, ?_, q2⟩
          rw [edgesTo_next, ← List.take_of_length_le (show (edgesOf bl k).length ≤ b.fin.dest.length by rw [HE0.out, List.length_map]; exact Nat.le_refl _)]
          exact q1)
        go_wp2_with fail
        go_roundw
        case rel => exact ⟨k + 1, by omega, by go_num, HL9⟩
        case measure => simp [intOf]; omega
    · obtain rfl : k = bl.length := by omega
      obtain ⟨vi, hst, hbw⟩ := HL.out
      have HST := Lib.hid hst
      have HBW := Lib.hid hbw
      clear hst hbw HL
      go_wp2_with fail
      go_ret
      exact ⟨_, c, vi, rfl, HST.out.lower (by have := HZ1.out; omega), HB.out.trans (HBW.out.mono (by have := HZ1.out; omega))⟩
end Go.Proofs.YtdgmdpphimenjaaDoor.Lv12
