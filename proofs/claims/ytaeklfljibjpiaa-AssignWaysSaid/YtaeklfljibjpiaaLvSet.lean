/-
  Layer 12: sets of names, as maps that are written in place.
-/
import Derived.Test.YtaeklfljibjpiaaShMap
import Derived.Sort.KeysCollected
import Derived.Maps.RangeWalk
import Derived.RangeFuncOwn
import Derived.Lib.Hide
import Derived.Lib.Walk
import Derived.Deep.RegionHeld3
import Derived.Deep.RegionLaw
namespace Go.Proofs.Ytaeklfljibjpiaa.Lv12
open Go.RowKit Api Mem Sh8 Go.Maps

theorem sub_len : ∀ {a b : List Wd}, a.Nodup → (∀ x ∈ a, x ∈ b) → a.length ≤ b.length
  | [], b, _, _ => Nat.zero_le _
  | x :: r, b, hn, hs => by
    obtain ⟨h1, h2⟩ := List.nodup_cons.1 hn
    have := sub_len (a := r) (b := b.erase x) h2 (fun y hy => (List.mem_erase_of_ne (fun (e : y = x) => h1 (by rw [← e]; exact hy))).2 (hs y (by simp [hy])))
    rw [List.length_erase_of_mem (hs x (by simp))] at this
    have h3 := List.length_pos_of_mem (hs x (by simp))
    simp only [List.length_cons]
    omega
/-- names whose lengths, and whose number, are small. -/
structure UOk (U : List Wd) : Prop where
  len : U.length ≤ 1000000000000
  nm : ∀ x ∈ U, x.length ≤ 140737488351232
theorem own_size {H : Type} {P : Program} {k : TypeId} {R : Value → Option (DataW H × List MemPlace)} {w : World} {b n : Nat} {D : DataW H} (h : w.ownsMap P k R b n D) : w.ownsMap P k R b (size D) D := by
  obtain ⟨es, clock, hb, F, hs, rfl⟩ := h
  exact ⟨es, clock, hb, F, by simp [Maps.size, length_sorted], rfl⟩
theorem own_keys {H : Type} {P : Program} {k : TypeId} {R : Value → Option (DataW H × List MemPlace)} {w : World} {b n : Nat} {D : DataW H} (K : Keyed P k) (hk : P.underlying k = some .string) (h : w.ownsMap P k R b n D) : (strKeys D).Nodup ∧ (∀ x, x ∈ strKeys D ↔ has D (.string x) = true) ∧ size D = (strKeys D).length := by
  obtain ⟨es, hD, hpw, _⟩ := h.entries K
  obtain ⟨es', hD', hko⟩ := h.keysOf
  obtain rfl : es = es' := by rw [hD] at hD'; simpa using hD'
  subst hD
  have hk2 : ∀ p ∈ es, ∃ x, p.1 = Lit.string x := fun p hp => by
    obtain ⟨v, hv⟩ := hko p hp
    obtain ⟨x, _, hx, _⟩ := Maps.keyOf_str hk hv
    exact ⟨x, hx⟩
  refine ⟨?_, fun x => ?_, by simp [Maps.size, strKeys]⟩
  · show (es.map fun p => strOf p.1).Nodup
    refine List.pairwise_map.2 (hpw.imp_of_mem fun {p q} hp' hq' hne e => hne ?_)
    obtain ⟨a, ha⟩ := hk2 p hp'
    obtain ⟨b, hb⟩ := hk2 q hq'
    rw [ha, hb] at e ⊢
    exact congrArg _ e
  · rw [has_eq, List.any_eq_true]
    show (x ∈ es.map fun p => strOf p.1) ↔ _
    rw [List.mem_map]
    constructor
    · rintro ⟨p, hp', rfl⟩
      obtain ⟨a, ha⟩ := hk2 p hp'
      exact ⟨p, hp', by rw [ha]; simp [Lit.sameKey, strOf]⟩
    · rintro ⟨p, hp', hs⟩
      obtain ⟨a, ha⟩ := hk2 p hp'
      rw [ha] at hs
      exact ⟨p, hp', by rw [ha]; simpa [Lit.sameKey, strOf] using hs⟩
/-- Block g is a map whose keys are the names of S, all of them among U. -/
def SetO (U : List Wd) (w : World) (g : Nat) (S : Wd → Bool) : Prop :=
  (∃ D : DataW Unit, w.ownsMap Try.prog 9 unitElem g (size D) D ∧ ∀ x, has D (kS x) = S x) ∧ ∀ x, S x = true → x ∈ U
section
variable {U : List Wd} {w w' : World} {g : Nat} {S : Wd → Bool}
theorem SetO.lt (h : SetO U w g S) : g < w.heap.size := by
  obtain ⟨⟨D, h, _⟩, _⟩ := h
  exact h.lt
theorem SetO.grown (h : SetO U w g S) {row : Option Nat} (hg : w.grownBy w' row) (hne : some g ≠ row) : SetO U w' g S := by
  obtain ⟨⟨D, h, h2⟩, h3⟩ := h
  exact ⟨⟨D, h.kept hg hne, h2⟩, h3⟩
theorem SetO.alloc (h : SetO U w g S) (o : Obj) : SetO U (w.alloc o) g S := h.grown (World.grownBy_alloc w o none) (by simp)
theorem SetO.drew (h : SetO U w g S) : SetO U w.drew g S := h
theorem SetO.setCell (h : SetO U w g S) {a : Addr} (ha : g ≠ a.block) (u : Value) : SetO U (w.setCell a u) g S := by
  obtain ⟨⟨D, h, h2⟩, h3⟩ := h
  exact ⟨⟨D, h.setCell ha u, h2⟩, h3⟩
theorem SetO.block (h : SetO U w g S) (hk : w'.heap[g]? = w.heap[g]?) : SetO U w' g S := by
  obtain ⟨⟨D, ⟨es, clock, h1, r⟩, h2⟩, h3⟩ := h
  exact ⟨⟨D, ⟨es, clock, hk.trans h1, r⟩, h2⟩, h3⟩
theorem SetO.below {B : Nat} (h : SetO U w g S) (hb : Below B w w') (hg : g < B) : SetO U w' g S := h.block (hb.block g hg)
theorem SetO.made (U : List Wd) (w : World) : SetO U (w.alloc (.map #[] 0)) w.heap.size (fun _ => false) :=
  ⟨⟨.map [], own_size (World.ownsMap_made (H := Unit) w Try.prog 9 unitElem), fun _ => rfl⟩, fun _ h => by cases h⟩
theorem SetO.same {S' : Wd → Bool} (h : SetO U w g S) (e : ∀ x, S x = S' x) : SetO U w g S' := by
  obtain rfl : S = S' := funext e
  exact h
/-- it is no row. -/
theorem SetO.noCells (h : SetO U w g S) : ∃ o : Obj, w.heap[g]? = some o ∧ o.isCells = false := by
  obtain ⟨⟨D, ⟨es, clock, h1, r⟩, h2⟩, h3⟩ := h
  exact ⟨_, h1, rfl⟩
theorem SetO.keys (h : SetO U w g S) : ∃ D : DataW Unit, w.ownsMap Try.prog 9 unitElem g (size D) D ∧ (∀ x, has D (kS x) = S x) ∧ (strKeys D).Nodup ∧ (∀ x, x ∈ strKeys D ↔ S x = true) ∧ size D = (strKeys D).length ∧ size D ≤ U.length := by
  obtain ⟨⟨D, h1, h2⟩, h3⟩ := h
  obtain ⟨k1, k2, k3⟩ := own_keys lawS Try.underlying9 h1
  have k4 : ∀ x, x ∈ strKeys D ↔ S x = true := fun x => by rw [k2 x, ← h2 x]
  exact ⟨D, h1, h2, k1, k4, k3, by rw [k3]; exact sub_len k1 fun x hx => h3 x ((k4 x).1 hx)⟩
end
def addS (S : Wd → Bool) (x : Wd) (y : Wd) : Bool := S y || decide (y = x)
def delS (S : Wd → Bool) (x : Wd) (y : Wd) : Bool := S y && !decide (y = x)
def orS (S : Wd → Bool) (l : List Wd) (y : Wd) : Bool := S y || decide (y ∈ l)
theorem orS_nil (S : Wd → Bool) : orS S [] = S := funext fun y => by simp [orS]
theorem orS_snoc (S : Wd → Bool) (l : List Wd) (x : Wd) : addS (orS S l) x = orS S (l ++ [x]) := funext fun y => by simp [orS, addS, Bool.or_assoc]
theorem orS_app (S : Wd → Bool) (l r : List Wd) : orS (orS S l) r = orS S (l ++ r) := funext fun y => by simp [orS, Bool.or_assoc]
theorem has_at {P : Program} {t k e : TypeId} (K : Keyed P k) (ht : P.underlying t = some (.map k e)) {w : World} (hz : (zeroValue e).run P w = .ok (.agg #[]) w) {b n : Nat} {D : DataW Unit} (h : w.ownsMap P k unitElem b n D) {key : Value} {kl : Lit} (hkey : keyOf P k key = some kl) {d : Bool} (hd : has D kl = d) :
    (Instr.lookup t (.map (some b)) key true).run P w = .ok (.tuple #[.agg #[], .bool d]) w := by
  obtain ⟨v, ps, h1, h2⟩ := h.look_ok K ht hz unitElem_mk hkey
  obtain ⟨rfl, _⟩ := unitElem_inv h2
  rw [h1, hd]
theorem drop_at {P : Program} {t k e : TypeId} (K : Keyed P k) (ht : P.underlying t = some (.map k e)) {U : List Wd} {w : World} {b n : Nat} {D : DataW Unit} (h : w.ownsMap P k unitElem b n D) {key : Value} {kl : Lit} (hkey : keyOf P k key = some kl) (ty : TypeId) :
    ∃ w', (Builtin.delete_ #[t, k] ty #[.map (some b), key]).run P w = .ok (.tuple #[]) w' ∧ w'.ownsMap P k unitElem b n (D.del kl) ∧ w.mapTurned w' b := h.drop K ht hkey ty

set_option maxRecDepth 100000 in
set_option maxHeartbeats 4000000 in
theorem has_any {U : List Wd} {w : World} {g : Nat} {S : Wd → Bool} (h : SetO U w g S) (x : Wd) (hx : x.length ≤ 140737488351232) :
    Calls Try.prog 41 #[.map (some g), str x] w fun e w' => e = .returned (.bool (S x)) ∧ w.grownBy w' none := by
  obtain ⟨D, h1, h2, _⟩ := h.keys
  have hl := has_at lawS Try.underlying69 (zeroU w) h1 (key_at hx) (h2 x)
  obtain ⟨b, hb⟩ : ∃ b, S x = b := ⟨_, rfl⟩
  rw [hb] at hl
  rw [hb]
  clear h h1 h2 hb
  go_enter Try.func41, Try.ntmps41
  go_wp2_with fail
  go_ret
  exact ⟨rfl, World.grownBy_alloc w _ none⟩
set_option maxRecDepth 100000 in
set_option maxHeartbeats 4000000 in
theorem add_any {U : List Wd} (hU : UOk U) {w : World} {g : Nat} {S : Wd → Bool} (h : SetO U w g S) (x : Wd) (hx : x ∈ U) :
    Calls Try.prog 42 #[.map (some g), str x] w fun e w' => e = .returned (.tuple #[]) ∧ SetO U w' g (addS S x) ∧ w.grownBy w' (some g) := by
  obtain ⟨D, h1, h2, _, _, _, h6⟩ := h.keys
  have hkey := key_at (hU.nm x hx)
  have hn : size D < maxLen := by have := hU.len; unfold maxLen; omega
  have H1 := Lib.hid h1
  have HS := Lib.hid (fun (w' : World) (n : Nat) (ho : w'.ownsMap Try.prog 9 unitElem g n (D.put (kS x) (.agg []))) => (show SetO U w' g (addS S x) from ⟨⟨_, own_size ho, fun y => by
    unfold addS
    by_cases e : y = x
    · subst e
      rw [has_put_same (h1.tidy lawS).isMap (keyS _)]
      simp
    · rw [has_put_other (kS_ne e), h2]
      simp [e]⟩, fun y hy => by
    unfold addS at hy
    rw [Bool.or_eq_true, decide_eq_true_iff] at hy
    rcases hy with hy | rfl
    · exact h.2 y hy
    · exact hx⟩))
  clear h h1 h2 h6
  go_enter Try.func42, Try.ntmps42
  go_wp2_with (first | (at_mapUpdate; refine wpList_mapUpdate_own _ rfl _ _ _ 69 rfl 9 91 lawS Try.underlying69 _ g _ _ rfl H1.out hn _ _ _ rfl rfl hkey _ [] unitElem_mk ?_; intro w9 hown9 hg9; have HO9 := Lib.hid (HS.out w9 _ hown9); have HB9 := Lib.hid hg9; clear hown9 hg9) | go_in)
  go_end0
  exact ⟨rfl, HO9.out, HB9.out⟩
end Go.Proofs.Ytaeklfljibjpiaa.Lv12
