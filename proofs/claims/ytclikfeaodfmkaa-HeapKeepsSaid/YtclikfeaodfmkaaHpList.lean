/-
  Layer 15: package heap's alike, follow and Alike, walked.
-/
import Derived.Test.YtclikfeaodfmkaaHpVals
import Derived.Test.YtclikfeaodfmkaaHpOwn
namespace Go.Proofs.Ytclikfeaodfmkaa.Hp15
open Go.RowKit Api Mem Go.Maps

/-- the first n of them are alike. -/
def AVn (h k : Hp) (P : Int → Int → Prop) (a b : List Vl) (n : Nat) : Prop := ∀ (i : Nat) (x y : Vl), i < n → a[i]? = some x → b[i]? = some y → AV h k P x y
theorem avn_mono {h k : Hp} {a b : List Vl} {n : Nat} {P Q : Int → Int → Prop} (hs : ∀ n m, P n m → Q n m) (hv : AVn h k P a b n) : AVn h k Q a b n := fun i x y h1 h2 h3 => (hv i x y h1 h2 h3).mono hs
theorem avn_next {h k : Hp} {a b : List Vl} {n : Nat} {x y : Vl} {P : Int → Int → Prop} (hx : a[n]? = some x) (hy : b[n]? = some y) : AVn h k P a b (n + 1) ↔ AVn h k P a b n ∧ AV h k P x y := by
  constructor
  · intro hv
    exact ⟨fun i u v h1 h2 h3 => hv i u v (by omega) h2 h3, hv n x y (by omega) hx hy⟩
  · rintro ⟨h1, h2⟩ i u v h3 h4 h5
    by_cases e : i = n
    · subst e
      rw [hx] at h4
      rw [hy] at h5
      cases h4
      cases h5
      exact h2
    · exact h1 i u v (by omega) h4 h5
theorem Step.len {h k : Hp} {T T' : PT} {q q' : List Int} {G : (Int → Int → Prop) → Prop} (s : Step h k T q T' q' G) : q'.length + T.length = q.length + T'.length ∧ T'.length ≤ h.length := by
  obtain ⟨N, e1, e2⟩ := s.ext
  refine ⟨?_, s.ok.len⟩
  rw [e1, e2]
  simp only [List.length_append, List.length_map]
  omega
set_option maxRecDepth 100000 in
set_option maxHeartbeats 8000000 in
theorem list_any {h k : Hp} {T : PT} {q : List Int} {lo hi : Nat} {w : World} {B pb : Nat} {v1 v2 vr va vb : Value} {g1 g2 : Nat} {a b : List Vl} (hM : PM w B pb v1 v2 vr g1 g2 T q) (hB : Base h k T) (ha : Vls lo hi w va a) (hb : Vls lo hi w vb b) (hga : ∀ x ∈ a, vlG x) (hgb : ∀ x ∈ b, vlG x) (hl : q.length ≤ 1000) (hT : h.length ≤ 1000) (hBw : B ≤ w.heap.size) (hh : hi ≤ B) (h1 : Obs lo hi w v1 h) (h2 : Obs lo hi w v2 k) :
    Calls Try.prog 20 #[.pointer (some ⟨pb, 0, none⟩), va, vb] w (PairP h k T q (fun P => AVs h k P a b) B pb v1 v2 g1 g2 w) := by
  obtain ⟨A1, c1, rfl⟩ := Row.form ha
  obtain ⟨A2, c2, rfl⟩ := Row.form hb
  have hla := row_len ha
  have HA := Lib.hid ha
  have HB := Lib.hid hb
  have HM := Lib.hid hM
  have HBS := Lib.hid hB
  have HGA := Lib.hid hga
  have HGB := Lib.hid hgb
  have H1 := Lib.hid h1
  have H2 := Lib.hid h2
  have HBw := Lib.hid hBw
  clear ha hb hM hB hga hgb h1 h2 hBw
  by_cases hlen : a.length = b.length
  · have e0 : ((a.length : Int) != (b.length : Int)) = false := by rw [hlen]; simp
    have HL := Lib.hid hlen
    clear hlen
    go_enter Try.func20, Try.ntmps20
    go_wp2_with fail
    go_loopw [15] (fun i wr => ∃ (n : Nat) (T' : PT) (q' : List Int) (vr' : Value), n ≤ a.length ∧ i = .int .i64 n ∧ Hid (Step h k T q T' q' (fun P => AVn h k P a b n)) ∧ Hid (PM wr B pb v1 v2 vr' g1 g2 T' q') ∧ Hid (Below B w wr)) (fun i _ => a.length - (intOf i).toNat)
    case atStart => exact ⟨0, T, q, vr, Nat.zero_le _, rfl, Lib.hid (Step.same HBS.out (fun i x y h1 => by omega)), HM, Lib.hid (Below.refl _ _)⟩
    case round =>
    obtain ⟨n, T', q', vr', hn, rfl, HS, HMr, HBr⟩ := hrel
    by_cases hlt : n < a.length
    · have hlb : n < b.length := by have := HL.out; omega
      obtain ⟨x, hx⟩ : ∃ x, a[n]? = some x := ⟨_, List.getElem?_eq_getElem hlt⟩
      obtain ⟨y, hy⟩ : ∃ y, b[n]? = some y := ⟨_, List.getElem?_eq_getElem hlb⟩
      obtain ⟨b1, o1, rfl, _⟩ := addr2 HA.out (by omega)
      obtain ⟨b2, o2, rfl, _⟩ := addr2 HB.out (by omega)
      obtain ⟨m1, m2⟩ := vl_at HA.out hx (HBr.out.mono hh)
      obtain ⟨m3, m4⟩ := vl_at HB.out hy (HBr.out.mono hh)
      have HX := Lib.hid hx
      have HY := Lib.hid hy
      have HSL := Lib.hid HS.out.len
      have QV := Lib.hid (fun (w5 : World) (hb : Below wr.heap.size wr w5) => values_any (h := h) (k := k) (T := T') (q := q') (lo := lo) (hi := hi) (w := w5) x y (HMr.out.below hb) HS.out.ok (HGA.out x (List.mem_of_getElem? hx)).2 (HGB.out y (List.mem_of_getElem? hy)).2 (by have := HSL.out; omega) (by have := HSL.out; omega) (Nat.le_trans (Nat.le_trans HBw.out HBr.out.size) hb.size) (by have := HBw.out; have := HBr.out.size; have := hb.size; omega) (Obs.move (Still.of_below ((HBr.out.trans (hb.mono (Nat.le_trans HBw.out HBr.out.size))).mono hh)) H1.out) (Obs.move (Still.of_below ((HBr.out.trans (hb.mono (Nat.le_trans HBw.out HBr.out.size))).mono hh)) H2.out))
      clear hx hy
      go_wp2_with fail
      go_region_law (go_simp; go_at_call 25; (with_reducible refine (QV.out _ ((Below.refl _ _).drew)).mono ?_); rintro e w7 ⟨b7, rfl, hy7, hn7, hb7⟩; have HY7 := Lib.hid hy7; have HN7 := Lib.hid hn7; have HB7 := Lib.hid (HBr.out.drew.trans hb7); clear hy7 hn7 hb7)
      all_goals
        cases b7 with
        | true =>
          obtain ⟨T2, q2, vr2, hs2, hm2⟩ := HY7.out rfl
          have HS2 := Lib.hid (show Step h k T q T2 q2 (fun P => AVn h k P a b (n + 1)) from (HS.out.trans hs2 (fun hpq hv => avn_mono hpq hv)).weak (fun hv => (avn_next HX.out HY.out).2 hv) (fun P hv => (avn_next HX.out HY.out).1 hv))
          have HM2 := Lib.hid hm2
          clear hs2 hm2
          go_wp2_with fail
          go_roundw
          case rel => exact ⟨n + 1, T2, q2, vr2, by omega, by go_num, HS2, HM2, HB7⟩
          case measure => simp [intOf]; omega
        | false =>
          have HF := Lib.hid (show Fails T (fun P => AVs h k P a b) from (HS.out.fails (HN7.out rfl)).weak (fun P hv => (avn_next HX.out HY.out).1 (fun i x y _ h1 h2 => hv.2 i x y h1 h2)))
          go_wp2_with fail
          go_ret
          exact ⟨false, rfl, fun h => (by cases h), fun _ => HF.out, HB7.out⟩
    · have hne : n = a.length := by omega
      subst hne
      have HF := Lib.hid (show Step h k T q T' q' (fun P => AVs h k P a b) from HS.out.weak (fun hv => ⟨HL.out, fun i x y h1 h2 => hv i x y (List.getElem?_eq_some_iff.1 h1).1 h1 h2⟩) (fun P hv i x y _ h1 h2 => hv.2 i x y h1 h2))
      go_wp2_with fail
      go_ret
      exact ⟨true, rfl, fun _ => ⟨T', q', vr', HF.out, HMr.out⟩, fun h => (by cases h), HBr.out⟩
  · have e0 : ((a.length : Int) != (b.length : Int)) = true := by simp; omega
    have HF := Lib.hid (show Fails T (fun P => AVs h k P a b) from fun P _ _ hv => hlen hv.1)
    have e1 : ¬ ((a.length : Int) = (b.length : Int)) := by omega
    clear hlen
    go_enter Try.func20, Try.ntmps20
    go_wp2_with fail
    go_ret
    exact ⟨false, rfl, fun h => (by cases h), fun _ => HF.out, Below.refl _ _⟩
end Go.Proofs.Ytclikfeaodfmkaa.Hp15
