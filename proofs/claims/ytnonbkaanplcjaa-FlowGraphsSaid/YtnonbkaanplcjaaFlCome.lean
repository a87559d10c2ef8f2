/-
  Layer 9: the document's Come and Order.
-/
import Derived.Test.YtnonbkaanplcjaaFlDownW
import Derived.Test.YtnonbkaanplcjaaFlIter
import Derived.Laws.MakeOwn
namespace Go.Proofs.Ytnonbkaanplcjaa.Fl9
open Go.RowKit Api Mem

theorem run_row9 {P : Program} {t e : TypeId} {z : Value} {bytes : Nat} (ht : P.underlying t = some (.slice e)) (hinf : (P.info? e).map (fun i => (i.zero, i.size, i.bytes)) = some (some z, 1, bytes)) (hzc : z.cells = #[z]) (hby : bytes ≤ 64) (n : Nat) (hn : n ≤ 1099511627776) (w : World) :
    (Instr.makeSlice t (.int .i64 (n : Int)) (.int .i64 (n : Int))).run P w = .ok (.slice (some ⟨w.heap.size, 0, none⟩) n n) (w.alloc (.cells (List.replicate n z).toArray e)) := by
  obtain ⟨i0, hi, hz0, hz1, hz2⟩ := info_parts hinf
  have h := run_make (P := P) w t e i0 z ht hi hz0 .i64 .i64 (n : Int) (n : Int) (by omega) (by omega) (by
    rw [hz2]
    have : bytes * n ≤ 64 * 1099511627776 := Nat.mul_le_mul hby hn
    have h2 : ((bytes * n : Nat) : Int) ≤ 281474976710656 := by omega
    rwa [Int.natCast_mul] at h2) (by omega)
  rw [hz1, hzc] at h
  have e1 : madeCells #[z] n = (List.replicate n z).toArray := by rw [← toList_madeCells_one]
  simp only [Int.toNat_natCast, Nat.mul_one, e1] at h
  exact h
def comeV (g : List (List Int)) : List Bool := if g.length = 0 then [] else (startV g).1
def orderV (g : List (List Int)) : List Int := if g.length = 0 then [] else (startV g).2.reverse
theorem row_made9 {w w' : World} {e : TypeId} {z : Value} (n b : Nat) (h : w.alloc (.cells (List.replicate n z).toArray e) = w') (hb : b = w.heap.size) (hn : n ≤ 1000) : w'.ownsRow b e 1 (.slice (some ⟨b, 0, none⟩) n n) n (List.replicate n z) := by
  subst h
  subst hb
  have := World.ownsRow_lit (base := w.heap.size) (e := e) (size := 1) w (List.replicate n z).toArray n (Nat.le_refl _) (by unfold maxLen; omega) (by simp)
  simpa using this
set_option maxRecDepth 100000 in
set_option maxHeartbeats 16000000 in
theorem rcomeG_any (lo hi : Nat) (w : World) (v : Value) (g : List (List Int)) (hg : Graph lo hi w v g) (hh : hi ≤ w.heap.size) (hn : g.length ≤ 1000) :
    Calls Try.prog 20 #[v] w fun e w' => ∃ vm, e = .returned vm ∧ w'.ownsRow w.heap.size 4 1 vm g.length (bC (comeV g)) ∧ Below w.heap.size w w' := by
  obtain ⟨A1, k1, rfl⟩ := Row.form hg
  have hmm := fun (w : World) => run_row9 (P := Try.prog) (t := 36) Try.underlying36 info_bool9 rfl (by decide) g.length (by omega) w
  obtain ⟨W, hW⟩ : ∃ W, w.alloc (.cells (List.replicate g.length (.bool false)).toArray 4) = W := ⟨_, rfl⟩
  have HO := Lib.hid (row_made9 g.length w.heap.size hW rfl hn)
  have HB := Lib.hid (show Below w.heap.size w W by rw [← hW]; exact (Below.refl _ _).alloc (Nat.le_refl _) _)
  have HG := Lib.hid hg
  have HW := Lib.hid (show w.alloc (.cells (Array.replicate g.length (.bool false)) 4) = W by rw [← hW]; simp)
  clear hg hW
  by_cases h0 : g.length = 0
  · have e0 : decide ((0 : Int) < (g.length : Int)) = false := decide_eq_false (by omega)
    have e1 : decide (0 < g.length) = false := decide_eq_false (by omega)
    have H0 := Lib.hid h0
    clear h0
    go_enter Try.func20, Try.ntmps20
    go_wp2_with fail
    rw [HW.out]
    go_ret
    refine ⟨_, rfl, ?_, HB.out⟩
    have := HO.out
    unfold comeV
    rw [if_pos H0.out]
    have e : List.replicate g.length (Value.bool false) = bC [] := by rw [H0.out]; rfl
    rw [e] at this
    exact this
  · have e0 : decide ((0 : Int) < (g.length : Int)) = true := decide_eq_true (by omega)
    have e1 : decide (0 < g.length) = true := decide_eq_true (by omega)
    have QD := Lib.hid (down_any lo hi _ g w.heap.size hh hn g.length W (Graph.move (Still.of_below (HB.out.mono hh)) HG.out) HB.out.size 0 _ (.slice none 0 0) (List.replicate g.length false) [] (by rw [List.getElem?_replicate, if_pos (by omega)]) (by rw [un_none]; exact Nat.le_refl _) (by simp) (by rw [un_none]; show 0 + g.length ≤ 2000; omega) (by have := HO.out; rw [show bC (List.replicate g.length false) = List.replicate g.length (.bool false) from List.map_replicate]; exact this) (World.ownsRow_nil _ _ _ _))
    have H0 := Lib.hid h0
    clear h0
    go_enter Try.func20, Try.ntmps20
    go_wp2_with fail
    rw [HW.out]
    refine QD.out.mono ?_
    rintro e w6 ⟨vm, vl, rfl, om, ol, hb6, hs6⟩
    have HM := Lib.hid om
    have HB6 := Lib.hid (HB.out.trans hb6)
    clear om ol hb6 hs6
    go_wp2_with fail
    go_ret
    refine ⟨_, rfl, ?_, HB6.out⟩
    unfold comeV
    rw [if_neg H0.out]
    exact HM.out
theorem row_below9 {w w' : World} {base e size n : Nat} {v : Value} {xs : List Value} (h : w.ownsRow base e size v n xs) (hb : Below w.heap.size w w') : w'.ownsRow base e size v n xs := by
  refine ⟨h.1, ?_⟩
  rcases h.2 with hn | ⟨k, cap, cur, rfl, hbk, hk, r⟩
  · exact .inl hn
  · exact .inr ⟨k, cap, cur, rfl, hbk, (hb.block k (Array.getElem?_eq_some_iff.1 hk).1).trans hk, r⟩
theorem drop_rev {l : List Int} {k : Nat} {x : Int} (h : l[k]? = some x) : (l.drop k).reverse = (l.drop (k + 1)).reverse ++ [x] := by
  obtain ⟨hk, e⟩ := List.getElem?_eq_some_iff.1 h
  rw [List.drop_eq_getElem_cons hk, e, List.reverse_cons]
set_option maxRecDepth 100000 in
set_option maxHeartbeats 16000000 in
theorem rorderG_any (lo hi : Nat) (w : World) (v : Value) (g : List (List Int)) (hg : Graph lo hi w v g) (hh : hi ≤ w.heap.size) (hn : g.length ≤ 1000) (h0 : g.length ≠ 0) :
    Calls Try.prog 17 #[v] w fun e w' => ∃ vo, e = .returned vo ∧ w'.ownsRow w.heap.size 3 1 vo (orderV g).length (iC (orderV g)) ∧ Below w.heap.size w w' := by
  obtain ⟨A1, k1, rfl⟩ := Row.form hg
  have hmm := fun (w : World) => run_row9 (P := Try.prog) (t := 36) Try.underlying36 info_bool9 rfl (by decide) g.length (by omega) w
  obtain ⟨W, hW⟩ : ∃ W, w.alloc (.cells (List.replicate g.length (.bool false)).toArray 4) = W := ⟨_, rfl⟩
  have HO := Lib.hid (row_made9 g.length w.heap.size hW rfl hn)
  have HB := Lib.hid (show Below w.heap.size w W by rw [← hW]; exact (Below.refl _ _).alloc (Nat.le_refl _) _)
  have HG := Lib.hid hg
  have HW := Lib.hid (show w.alloc (.cells (Array.replicate g.length (.bool false)) 4) = W by rw [← hW]; simp)
  clear hg hW
  have e0 : decide ((0 : Int) < (g.length : Int)) = true := decide_eq_true (by omega)
  have e1 : decide (0 < g.length) = true := decide_eq_true (by omega)
  have hgood := down_good g g.length 0 (List.replicate g.length false) [] (by rw [List.getElem?_replicate, if_pos (by omega)]) (by rw [un_none]; exact Nat.le_refl _) (by simp)
  rw [un_none] at hgood
  have QD := Lib.hid (down_any lo hi _ g w.heap.size hh hn g.length W (Graph.move (Still.of_below (HB.out.mono hh)) HG.out) HB.out.size 0 _ (.slice none 0 0) (List.replicate g.length false) [] (by rw [List.getElem?_replicate, if_pos (by omega)]) (by rw [un_none]; exact Nat.le_refl _) (by simp) (by rw [un_none]; show 0 + g.length ≤ 2000; omega) (by have := HO.out; rw [show bC (List.replicate g.length false) = List.replicate g.length (.bool false) from List.map_replicate]; exact this) (World.ownsRow_nil _ _ _ _))
  obtain ⟨L, hL⟩ : ∃ L, (downV g g.length 0 (List.replicate g.length false) []).2 = L := ⟨_, rfl⟩
  have hll : L.length ≤ 2000 := by rw [← hL]; have := hgood.2.1; simp at this; omega
  have HLE := Lib.hid hL
  have H0 := Lib.hid h0
  clear h0 hgood hL
  go_enter Try.func17, Try.ntmps17
  go_wp2_with fail
  rw [HW.out]
  refine QD.out.mono ?_
  rintro e W6 ⟨vm, vl, rfl, om, ol, hb6, hs6⟩
  rw [HLE.out] at ol
  obtain ⟨Al, cl, rfl⟩ := any9 ol
  have HL := Lib.hid ol
  have HB6 := Lib.hid (HB.out.trans hb6)
  have HCELL : Hid (∀ wr, Below W6.heap.size W6 wr → ∀ (k : Nat) (x : Int), L[k]? = some x → ∀ (g0 : Nat), Al = some ⟨g0, 0, none⟩ → wr.cell? ⟨g0, k, none⟩ = some (i64 x)) := Lib.hid (fun wr hb k x hx g0 eg => by
    subst eg
    have hkl := (List.getElem?_eq_some_iff.1 hx).1
    rw [(row_below9 HL.out hb).cellAt k (by omega), List.getElem?_map, hx]
    rfl)
  have HFIN : Hid (∀ wr vo, wr.ownsRow W6.heap.size 3 1 vo (L.length - 0) (iC (L.drop 0).reverse) → Below W6.heap.size W6 wr → wr.ownsRow w.heap.size 3 1 vo (orderV g).length (iC (orderV g)) ∧ Below w.heap.size w wr) := Lib.hid (fun wr vo ho hb => by
    refine ⟨?_, HB6.out.trans (hb.mono (Nat.le_trans HB.out.size hs6))⟩
    have e9 : orderV g = L.reverse := by unfold orderV startV; rw [if_neg H0.out, HLE.out]
    rw [e9, List.length_reverse]
    rw [Nat.sub_zero, List.drop_zero] at ho
    refine ⟨by simp, ?_⟩
    rcases ho.2 with h | ⟨q, cap, cur, h1, h2, h3⟩
    · exact .inl h
    · exact .inr ⟨q, cap, cur, h1, Nat.le_trans (Nat.le_trans HB.out.size hs6) h2, h3⟩)
  clear om ol hb6 hs6
  go_wp2_with fail
  go_loopw [4, 5] (fun vo i wr => ∃ (k : Nat), k ≤ L.length ∧ i = .int .i64 ((k : Int) - 1) ∧ Hid (wr.ownsRow W6.heap.size 3 1 vo (L.length - k) (iC (L.drop k).reverse)) ∧ Hid (Below W6.heap.size W6 wr)) (fun _ i _ => (intOf i + 1).toNat)
  case atStart => exact ⟨L.length, Nat.le_refl _, rfl, Lib.hid (by rw [Nat.sub_self, List.drop_of_length_le (Nat.le_refl _)]; exact World.ownsRow_nil _ _ _ _), Lib.hid (Below.refl _ _)⟩
  case round =>
  obtain ⟨k, hk, rfl, HOU, HBr⟩ := hrel
  by_cases hlt : 0 < k
  · obtain ⟨k, rfl⟩ : ∃ j, k = j + 1 := ⟨k - 1, by omega⟩
    obtain ⟨x, hx⟩ : ∃ x, L[k]? = some x := ⟨_, List.getElem?_eq_getElem (by omega)⟩
    obtain ⟨gl, cl2, e9, hgl, hgl2, hcl⟩ := form9 HL.out (by omega)
    simp only [Value.slice.injEq, true_and] at e9
    obtain ⟨rfl, rfl⟩ := e9
    have c9 := HCELL.out wr HBr.out k x hx gl rfl
    have e0 : ((k + 1 : Nat) : Int) - 1 = (k : Int) := by omega
    have HX := Lib.hid hx
    rw [e0]
    have hws := HBr.out.size
    have h1k : L.length - (k + 1) + 1 ≤ 3000 := by omega
    clear hx hgl hgl2 hcl
    go_wp2_with (at_builtin; refine push_own9 rfl _ _ 33 rfl W6.heap.size 3 _ 1 8 Try.underlying33 info_int9 rfl (by decide) _ (L.length - (k + 1)) _ rfl HOU.out [i64 x] _ rfl rfl rfl (by intro u hu; rw [List.mem_singleton] at hu; subst hu; rfl) (by unfold maxLen; omega) (by omega) hws ?_; intro v7 w7 hown7 hg7; have HO7 := Lib.hid hown7; have HB7 := Lib.hid (HBr.out.grown hg7 hws (fun q hq => (HOU.out.lt q hq).1)); clear hown7 hg7)
    go_roundw
    case rel => exact ⟨k, by omega, by go_num, Lib.hid (by rw [drop_rev HX.out, show L.length - k = L.length - (k + 1) + 1 by omega]; have := HO7.out; simpa [iC] using this), HB7⟩
    case measure => simp [intOf]
  · obtain rfl : k = 0 := by omega
    go_wp2_with fail
    go_ret
    exact ⟨_, rfl, HFIN.out wr _ HOU.out HBr.out⟩
end Go.Proofs.Ytnonbkaanplcjaa.Fl9
