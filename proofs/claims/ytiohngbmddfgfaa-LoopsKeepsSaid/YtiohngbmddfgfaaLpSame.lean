/-
  Layer 11: rows of loops as they are read; the document's Same of the same loops; the law's back.
-/
import Derived.Test.YtiohngbmddfgfaaLpCrs
import Derived.Test.YtiohngbmddfgfaaLaw09
import Derived.Deep.RegionHeld3
namespace Go.Proofs.Ytiohngbmddfgfaa.Lp11
open Go.RowKit Api Mem Fl9 Dm10

/-- rows of loops, as they are read. -/
def LRead (lo hi : Nat) (w : World) (v : Value) (L : List LpT) : Prop := Row lo hi w 3 (fun cs x => ∃ u k, cs = [i64 (x.1 : Int), u, k] ∧ Ints lo hi w u (casts x.2.1) ∧ Ints lo hi w k (casts x.2.2)) v L
theorem LRead.move {lo hi lo' hi' : Nat} {w w' : World} (s : Still lo hi lo' hi' w w') {v : Value} {L : List LpT} (h : LRead lo hi w v L) : LRead lo' hi' w' v L := Row.move h s.keep s.low s.high fun _ _ ⟨u, k, e, h1, h2⟩ => ⟨u, k, e, Ints.move s h1, Ints.move s h2⟩
theorem lread_row {t : TypeId} {w : World} {base hi : Nat} {v : Value} {vs : List (Value × Value)} {L : List LpT} (h : w.ownsRow base t 3 v L.length (lpCs vs L)) (hv : vs.length = L.length) (hh : w.heap.size ≤ hi) (hl : L.length ≤ 4611686018427387903) (hp : ∀ (i : Nat) (p : Value × Value) (x : LpT), vs[i]? = some p → L[i]? = some x → Ints 0 hi w p.1 (casts x.2.1) ∧ Ints 0 hi w p.2 (casts x.2.2)) : LRead 0 hi w v L :=
  Hold.Rec.on.row (r := outL t v vs L) (ys := List.zipWith (fun (p : Value × Value) (x : LpT) => [i64 (x.1 : Int), p.1, p.2]) vs L) (Hold.Rec.on.lower (r := outL t v vs L) h (Nat.zero_le _)) hh hl rfl (by simp [hv]) rfl (by
    intro i c x hc hx
    rw [List.getElem?_zipWith] at hc
    have hi := (List.getElem?_eq_some_iff.1 hx).1
    obtain ⟨p, hpi⟩ : ∃ p, vs[i]? = some p := ⟨_, List.getElem?_eq_getElem (by omega)⟩
    rw [hpi, hx] at hc
    cases hc
    exact ⟨rfl, p.1, p.2, rfl, (hp i p x hpi hx).1, (hp i p x hpi hx).2⟩)
theorem innL_mem : ∀ {vs : List (Value × Value)} {L : List LpT} {i : Nat} {p : Value × Value} {x : LpT}, vs[i]? = some p → L[i]? = some x → innR p.1 (casts x.2.1) ∈ innL vs L ∧ innR p.2 (casts x.2.2) ∈ innL vs L
  | [], _, _, _, _, h, _ => by simp at h
  | _ :: _, [], _, _, _, _, h => by simp at h
  | a :: vs, b :: L, 0, p, x, h1, h2 => by
    simp at h1 h2
    subst h1; subst h2
    unfold innL
    rw [List.zipWith_cons_cons, List.flatten_cons]
    exact ⟨by simp, by simp⟩
  | a :: vs, b :: L, i + 1, p, x, h1, h2 => by
    have := innL_mem (vs := vs) (L := L) (i := i) (by simpa using h1) (by simpa using h2)
    unfold innL at this ⊢
    rw [List.zipWith_cons_cons, List.flatten_cons]
    exact ⟨List.mem_append_right _ this.1, List.mem_append_right _ this.2⟩
/-- all loops of a graph are short. -/
def LFew (n : Nat) (L : List LpT) : Prop := L.length ≤ n ∧ ∀ x ∈ L, x.2.1.length ≤ n ∧ x.2.2.length ≤ n
theorem loops_few (g : List (List Int)) : LFew g.length (loopsV g) := by
  refine ⟨by rw [← lps_all]; exact lps_len g _, fun x hx => ?_⟩
  obtain ⟨_, e⟩ := loopsV_mem.1 hx
  rw [e]
  exact ⟨bodyL_len g _, backL_len g _⟩
theorem LOwn.read {t : TypeId} {w : World} {base hi n : Nat} {v : Value} {L : List LpT} (h : LOwn t w base v L) (hh : w.heap.size ≤ hi) (hf : LFew n L) (hn : n ≤ 1000) : LRead 0 hi w v L := by
  obtain ⟨vs, hv, ha⟩ := h
  refine lread_row (base := base) (t := t) ha.head hv hh (by have := hf.1; omega) fun i p x h1 h2 => ?_
  obtain ⟨m1, m2⟩ := innL_mem h1 h2
  have hx := hf.2 x (List.mem_of_getElem? h2)
  exact ⟨ints_own (Hold.Rec.on.lower (r := innR p.1 (casts x.2.1)) (ha.1 _ (by simp [m1])) (Nat.zero_le _)) hh (by rw [casts_len]; omega), ints_own (Hold.Rec.on.lower (r := innR p.2 (casts x.2.2)) (ha.1 _ (by simp [m2])) (Nat.zero_le _)) hh (by rw [casts_len]; omega)⟩
theorem lread_at {lo hi b o n c i : Nat} {w : World} {L : List LpT} {x : LpT} (h : LRead lo hi w (.slice (some ⟨b, o, none⟩) n c) L) (hl : L[i]? = some x) : ∃ A k A2 k2, Ints lo hi w (.slice A x.2.1.length k) (casts x.2.1) ∧ Ints lo hi w (.slice A2 x.2.2.length k2) (casts x.2.2) ∧ ∀ w', Below hi w w' → w'.cell? ⟨b, o + i * 3, none⟩ = some (i64 (x.1 : Int)) ∧ w'.cell? ⟨b, o + i * 3 + 1, none⟩ = some (.slice A x.2.1.length k) ∧ w'.cell? ⟨b, o + i * 3 + 2, none⟩ = some (.slice A2 x.2.2.length k2) := by
  obtain ⟨b', off', hn, hm, ha, hc⟩ := Row.get h
  have hi := (List.getElem?_eq_some_iff.1 hl).1
  obtain ⟨e, h1, h2⟩ := ha (by omega)
  simp only [Option.some.injEq, Addr.mk.injEq, and_true] at e
  obtain ⟨rfl, rfl⟩ := e
  obtain ⟨cs, c1, c2, u, k, rfl, hu, hk⟩ := hc i x hl
  obtain ⟨A, k1, rfl⟩ := Row.form hu
  obtain ⟨A2, k2, rfl⟩ := Row.form hk
  simp only [casts_len] at hu hk c2
  refine ⟨A, k1, A2, k2, hu, hk, fun w' hb => ?_⟩
  exact at3 (cells_later c2 hb h2)
theorem addr_ofL {lo hi : Nat} {w : World} {A : Option Addr} {n cap : Nat} {L : List LpT} (h : LRead lo hi w (.slice A n cap) L) (h0 : 0 < n) : ∃ b off, A = some ⟨b, off, none⟩ := by
  obtain ⟨b, off, _, _, ha, _⟩ := Row.get h
  exact ⟨b, off, (ha h0).1⟩
theorem yesB {P : Program} {f : FuncId} {args : Array Value} {p : Prop} {w w0 : World} (h : Calls P f args w (BP9 p w0)) (hp : p) : Calls P f args w fun e w' => e = .returned (.bool true) ∧ Below w0.heap.size w0 w' := h.mono (by
  rintro e w' ⟨c, rfl, hc, hw⟩
  rw [hc.2 hp]
  exact ⟨rfl, hw⟩)
set_option maxRecDepth 100000 in
set_option maxHeartbeats 8000000 in
theorem lsame_any (lo hi : Nat) (w : World) (va vb : Value) (L : List LpT) (ha : LRead lo hi w va L) (hb : LRead lo hi w vb L) (hh : hi ≤ w.heap.size) :
    Calls Try.prog 7 #[va, vb] w fun e w' => e = .returned (.bool true) ∧ Below w.heap.size w w' := by
  obtain ⟨A1, k1, rfl⟩ := Row.form ha
  obtain ⟨A2, k2, rfl⟩ := Row.form hb
  have hla : L.length ≤ 4611686018427387903 := by obtain ⟨_, _, _, h, _⟩ := Row.get ha; exact h
  have HA := Lib.hid ha
  have HB := Lib.hid hb
  clear ha hb
  go_enter Try.func7, Try.ntmps7
  go_wp2_with fail
  go_loopw [5] (fun kv wr => ∃ k : Nat, k ≤ L.length ∧ kv = .int .i64 k ∧ Hid (Below w.heap.size w wr)) (fun kv _ => L.length - (intOf kv).toNat)
  case atStart => exact ⟨0, Nat.zero_le _, rfl, Lib.hid (Below.refl _ _)⟩
  case round =>
  obtain ⟨k, hk, rfl, HBr⟩ := hrel
  by_cases hlt : k < L.length
  · obtain ⟨x, hx⟩ : ∃ x, L[k]? = some x := ⟨_, List.getElem?_eq_getElem hlt⟩
    obtain ⟨b1, o1, rfl⟩ := addr_ofL HA.out (by omega)
    obtain ⟨b2, o2, rfl⟩ := addr_ofL HB.out (by omega)
    obtain ⟨A3, k3, A4, k4, i3, i4, c1⟩ := lread_at HA.out hx
    obtain ⟨A5, k5, A6, k6, i5, i6, c2⟩ := lread_at HB.out hx
    have HSF := Lib.hid (fun (w' : World) (hb : Below w.heap.size w w') => (show ((w'.cell? ⟨b1, o1 + k * 3, none⟩ = some (i64 (x.1 : Int)) ∧ w'.cell? ⟨b1, o1 + k * 3 + 1, none⟩ = some (.slice A3 x.2.1.length k3) ∧ w'.cell? ⟨b1, o1 + k * 3 + 2, none⟩ = some (.slice A4 x.2.2.length k4)) ∧ (w'.cell? ⟨b2, o2 + k * 3, none⟩ = some (i64 (x.1 : Int)) ∧ w'.cell? ⟨b2, o2 + k * 3 + 1, none⟩ = some (.slice A5 x.2.1.length k5) ∧ w'.cell? ⟨b2, o2 + k * 3 + 2, none⟩ = some (.slice A6 x.2.2.length k6))) ∧ Hid (Below w.heap.size w w') from ⟨⟨c1 w' (hb.mono hh), c2 w' (hb.mono hh)⟩, Lib.hid hb⟩))
    have HSN := Lib.hid (fun (w1 w' : World) (hb : Below w1.heap.size w1 w') (h : ((w1.cell? ⟨b1, o1 + k * 3, none⟩ = some (i64 (x.1 : Int)) ∧ w1.cell? ⟨b1, o1 + k * 3 + 1, none⟩ = some (.slice A3 x.2.1.length k3) ∧ w1.cell? ⟨b1, o1 + k * 3 + 2, none⟩ = some (.slice A4 x.2.2.length k4)) ∧ (w1.cell? ⟨b2, o2 + k * 3, none⟩ = some (i64 (x.1 : Int)) ∧ w1.cell? ⟨b2, o2 + k * 3 + 1, none⟩ = some (.slice A5 x.2.1.length k5) ∧ w1.cell? ⟨b2, o2 + k * 3 + 2, none⟩ = some (.slice A6 x.2.2.length k6))) ∧ Hid (Below w.heap.size w w1)) => HSF.out w' (h.2.out.trans (hb.mono h.2.out.size)))
    have QB := Lib.hid (fun (w5 : World) (hb : Below w.heap.size w w5) => yesB (same_any lo hi w5 _ _ _ _ (Ints.move (Still.of_below (hb.mono hh)) i3) (Ints.move (Still.of_below (hb.mono hh)) i5) (Nat.le_trans hh hb.size)) rfl)
    have QK := Lib.hid (fun (w5 : World) (hb : Below w.heap.size w w5) => yesB (same_any lo hi w5 _ _ _ _ (Ints.move (Still.of_below (hb.mono hh)) i4) (Ints.move (Still.of_below (hb.mono hh)) i6) (Nat.le_trans hh hb.size)) rfl)
    clear c1 c2 i3 i4 i5 i6 hx
    go_wp2_with fail
    go_region_held3 (fun w' => ((w'.cell? ⟨b1, o1 + k * 3, none⟩ = some (i64 (x.1 : Int)) ∧ w'.cell? ⟨b1, o1 + k * 3 + 1, none⟩ = some (.slice A3 x.2.1.length k3) ∧ w'.cell? ⟨b1, o1 + k * 3 + 2, none⟩ = some (.slice A4 x.2.2.length k4)) ∧ (w'.cell? ⟨b2, o2 + k * 3, none⟩ = some (i64 (x.1 : Int)) ∧ w'.cell? ⟨b2, o2 + k * 3 + 1, none⟩ = some (.slice A5 x.2.1.length k5) ∧ w'.cell? ⟨b2, o2 + k * 3 + 2, none⟩ = some (.slice A6 x.2.2.length k6))) ∧ Hid (Below w.heap.size w w'))
      (first | exact HSF.out _ HBr.out | exact HSF.out _ HBr.out.drew | exact HSN.out _ _ hb (by assumption))
      (first | (go_at_call 15; (with_reducible refine (QB.out _ (Hid.out (And.right (by assumption)))).mono ?_); rintro e w' ⟨rfl, hb⟩) | (go_at_call 15; (with_reducible refine (QK.out _ (Hid.out (And.right (by assumption)))).mono ?_); rintro e w' ⟨rfl, hb⟩))
    rename_i hHeld
    have HU6 := hHeld.2
    clear hHeld
    go_wp2_with fail
    go_roundw
    case rel => exact ⟨k + 1, by omega, by go_num, HU6⟩
    case measure => simp [intOf]; omega
  · go_wp2_with fail
    go_ret
    exact ⟨rfl, HBr.out⟩
end Go.Proofs.Ytiohngbmddfgfaa.Lp11
