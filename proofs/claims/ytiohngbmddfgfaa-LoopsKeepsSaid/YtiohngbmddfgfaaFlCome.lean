/-
  Layer 9: the document's Come and Order.
-/
import Derived.Test.YtiohngbmddfgfaaFlDownW
import Derived.Test.YtiohngbmddfgfaaFlIter
import Derived.Laws.MakeOwn
namespace Go.Proofs.Ytiohngbmddfgfaa.Fl9
open Go.RowKit Api Mem

theorem run_row9 {P : Program} {t e : TypeId} {z : Value} {bytes : Nat} (ht : P.underlying t = some (.slice e)) (hinf : (P.info? e).map (fun i => (i.zero, i.size, i.bytes)) = some (some z, 1, bytes)) (hzc : z.cells = #[z]) (hby : bytes ≤ 64) (n : Nat) (hn : n ≤ 1099511627776) (w : World) :
    (Instr.makeSlice t (.int .i64 (n : Int)) (.int .i64 (n : Int))).run P w = .ok (.slice (some ⟨w.heap.size, 0, none⟩) n n) (w.alloc (.cells (List.replicate n z).toArray e)) := by
  obtain ⟨i0, hi, hz0, hz1, hz2⟩ := info_parts hinf
  have h := run_make (P := P) w t e i0 z ht hi hz0 .i64 .i64 (n : Int) (n : Int) (by omega) (by omega) (by
    rw [hz2]
    have : bytes * n ≤ 64 * 1099511627776 := Nat.mul_le_mul hby hn
    have h2 : ((bytes * n : Nat) : Int) ≤ 281474976710656 := by omega
    rwa [Int.natCast_mul] at h2) (by omega)
  rw [hz1, hzc] at h
  have e1 : madeCells #[z] n = (List.replicate n z).toArray := by rw [← toList_madeCells_one]
  simp only [Int.toNat_natCast, Nat.mul_one, e1] at h
  exact h
def comeV (g : List (List Int)) : List Bool := if g.length = 0 then [] else (startV g).1
def orderV (g : List (List Int)) : List Int := if g.length = 0 then [] else (startV g).2.reverse
theorem row_made9 {w w' : World} {e : TypeId} {z : Value} (n b : Nat) (h : w.alloc (.cells (List.replicate n z).toArray e) = w') (hb : b = w.heap.size) (hn : n ≤ 1000) : w'.ownsRow b e 1 (.slice (some ⟨b, 0, none⟩) n n) n (List.replicate n z) := by
  subst h
  subst hb
  have := World.ownsRow_lit (base := w.heap.size) (e := e) (size := 1) w (List.replicate n z).toArray n (Nat.le_refl _) (by unfold maxLen; omega) (by simp)
  simpa using this
set_option maxRecDepth 100000 in
set_option maxHeartbeats 16000000 in
theorem rcomeG_any (lo hi : Nat) (w : World) (v : Value) (g : List (List Int)) (hg : Graph lo hi w v g) (hh : hi ≤ w.heap.size) (hn : g.length ≤ 1000) :
    Calls Try.prog 34 #[v] w fun e w' => ∃ vm, e = .returned vm ∧ w'.ownsRow w.heap.size 4 1 vm g.length (bC (comeV g)) ∧ Below w.heap.size w w' := by
  obtain ⟨A1, k1, rfl⟩ := Row.form hg
  have hmm := fun (w : World) => run_row9 (P := Try.prog) (t := 49) Try.underlying49 info_bool9 rfl (by decide) g.length (by omega) w
  obtain ⟨W, hW⟩ : ∃ W, w.alloc (.cells (List.replicate g.length (.bool false)).toArray 4) = W := ⟨_, rfl⟩
  have HO := Lib.hid (row_made9 g.length w.heap.size hW rfl hn)
  have HB := Lib.hid (show Below w.heap.size w W by rw [← hW]; exact (Below.refl _ _).alloc (Nat.le_refl _) _)
  have HG := Lib.hid hg
  have HW := Lib.hid (show w.alloc (.cells (Array.replicate g.length (.bool false)) 4) = W by rw [← hW]; simp)
  clear hg hW
  by_cases h0 : g.length = 0
  · have e0 : decide ((0 : Int) < (g.length : Int)) = false := decide_eq_false (by omega)
    have e1 : decide (0 < g.length) = false := decide_eq_false (by omega)
    have H0 := Lib.hid h0
    clear h0
    go_enter Try.func34, Try.ntmps34
    go_wp2_with fail
    rw [HW.out]
    go_ret
    refine ⟨_, rfl, ?_, HB.out⟩
    have := HO.out
    unfold comeV
    rw [if_pos H0.out]
    have e : List.replicate g.length (Value.bool false) = bC [] := by rw [H0.out]; rfl
    rw [e] at this
    exact this
  · have e0 : decide ((0 : Int) < (g.length : Int)) = true := decide_eq_true (by omega)
    have e1 : decide (0 < g.length) = true := decide_eq_true (by omega)
    have QD := Lib.hid (down_any lo hi _ g w.heap.size hh hn g.length W (Graph.move (Still.of_below (HB.out.mono hh)) HG.out) HB.out.size 0 _ (.slice none 0 0) (List.replicate g.length false) [] (by rw [List.getElem?_replicate, if_pos (by omega)]) (by rw [un_none]; exact Nat.le_refl _) (by simp) (by rw [un_none]; show 0 + g.length ≤ 2000; omega) (by have := HO.out; rw [show bC (List.replicate g.length false) = List.replicate g.length (.bool false) from List.map_replicate]; exact this) (World.ownsRow_nil _ _ _ _))
    have H0 := Lib.hid h0
    clear h0
    go_enter Try.func34, Try.ntmps34
    go_wp2_with fail
    rw [HW.out]
    refine QD.out.mono ?_
    rintro e w6 ⟨vm, vl, rfl, om, ol, hb6, hs6⟩
    have HM := Lib.hid om
    have HB6 := Lib.hid (HB.out.trans hb6)
    clear om ol hb6 hs6
    go_wp2_with fail
    go_ret
    refine ⟨_, rfl, ?_, HB6.out⟩
    unfold comeV
    rw [if_neg H0.out]
    exact HM.out
theorem row_below9 {w w' : World} {base e size n : Nat} {v : Value} {xs : List Value} (h : w.ownsRow base e size v n xs) (hb : Below w.heap.size w w') : w'.ownsRow base e size v n xs := by
  refine ⟨h.1, ?_⟩
  rcases h.2 with hn | ⟨k, cap, cur, rfl, hbk, hk, r⟩
  · exact .inl hn
  · exact .inr ⟨k, cap, cur, rfl, hbk, (hb.block k (Array.getElem?_eq_some_iff.1 hk).1).trans hk, r⟩
theorem drop_rev {l : List Int} {k : Nat} {x : Int} (h : l[k]? = some x) : (l.drop k).reverse = (l.drop (k + 1)).reverse ++ [x] := by
  obtain ⟨hk, e⟩ := List.getElem?_eq_some_iff.1 h
  rw [List.drop_eq_getElem_cons hk, e, List.reverse_cons]
end Go.Proofs.Ytiohngbmddfgfaa.Fl9
