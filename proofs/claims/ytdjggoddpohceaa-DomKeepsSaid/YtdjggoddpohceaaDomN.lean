/-
  Layer 10: the document's Nearest walked.
-/
import Derived.Test.YtdjggoddpohceaaDomA
namespace Go.Proofs.Ytdjggoddpohceaa.Dm10
open Go.RowKit Api Mem Fl9

/-- the nearest one of k among those below j, so far. -/
def bestV (g : List (List Int)) (k : Nat) : Nat → Int
  | 0 => -1
  | j + 1 => if j ≠ k ∧ domB g j k = true ∧ (bestV g k j < 0 ∨ domB g (bestV g k j).toNat j = true) then (j : Int) else bestV g k j
theorem best_in (g : List (List Int)) (k : Nat) : ∀ j, bestV g k j = -1 ∨ ∃ b : Nat, bestV g k j = (b : Int) ∧ b < j
  | 0 => .inl rfl
  | j + 1 => by
    unfold bestV
    split
    · exact .inr ⟨j, rfl, by omega⟩
    · rcases best_in g k j with h | ⟨b, h1, h2⟩
      · exact .inl h
      · exact .inr ⟨b, h1, by omega⟩
def nearestV (g : List (List Int)) : List Int := (List.range g.length).map fun k => bestV g k g.length
theorem nearest_len (g : List (List Int)) : (nearestV g).length = g.length := by simp [nearestV]
theorem nearest_at {g : List (List Int)} {k : Nat} (h : k < g.length) : (nearestV g)[k]? = some (bestV g k g.length) := by unfold nearestV; rw [List.getElem?_map, List.getElem?_range h]; rfl
/-- nobody dominates: there is none; else the one that all others dominate. -/
theorem best_ok {g : List (List Int)} {k : Nat} : ∀ j, (bestV g k j = -1 ∧ ∀ i, i < j → i ≠ k → ¬ Dom g i k) ∨ ∃ b : Nat, bestV g k j = (b : Int) ∧ b < j ∧ b ≠ k ∧ Dom g b k ∧ ∀ i, i < j → i ≠ k → Dom g i k → Dom g i b
  | 0 => .inl ⟨rfl, fun i h => by omega⟩
  | j + 1 => by
    have h := best_ok (g := g) (k := k) j
    unfold bestV
    split
    · rename_i hc
      obtain ⟨h1, h2, h3⟩ := hc
      right
      refine ⟨j, rfl, by omega, h1, domB_iff.1 h2, fun i hi hne hd => ?_⟩
      by_cases e : i = j
      · subst e; exact Dom.self hd.come
      · rcases h with ⟨e2, hn⟩ | ⟨b, e2, hb, hbk, hbd, hall⟩
        · exact absurd hd (hn i (by omega) hne)
        · have := hall i (by omega) hne hd
          rcases h3 with h3 | h3
          · omega
          · rw [e2, Int.toNat_natCast] at h3
            exact this.trans (domB_iff.1 h3)
    · rename_i hc
      rcases h with ⟨e2, hn⟩ | ⟨b, e2, hb, hbk, hbd, hall⟩
      · left
        refine ⟨e2, fun i hi hne hd => ?_⟩
        by_cases e : i = j
        · subst e
          exact hc ⟨hne, domB_iff.2 hd, .inl (by omega)⟩
        · exact hn i (by omega) hne hd
      · right
        refine ⟨b, e2, by omega, hbk, hbd, fun i hi hne hd => ?_⟩
        by_cases e : i = j
        · subst e
          rcases dom_row hd hbd with h5 | h5
          · exact h5
          · exact absurd ⟨hne, domB_iff.2 hd, .inr (by rw [e2, Int.toNat_natCast]; exact domB_iff.2 h5)⟩ hc
        · exact hall i (by omega) hne hd
def NearP (g : List (List Int)) (w : World) (e : Ending) (w' : World) : Prop := ∃ v, e = .returned v ∧ w'.ownsRow w.heap.size 3 1 v g.length (iC (nearestV g)) ∧ Below w.heap.size w w'
theorem cell_bb {lo hi : Nat} {w wr : World} {A : Option Addr} {n c : Nat} {D : List (List Bool)} (h : BGraph lo hi w (.slice A n c) D) (hb : Below hi w wr) {i k : Nat} {l : List Bool} {x : Bool} (hl : D[i]? = some l) (hx : l[k]? = some x) : ∃ b o b2 o2 c2, A = some ⟨b, o, none⟩ ∧ wr.cell? ⟨b, o + i, none⟩ = some (.slice (some ⟨b2, o2, none⟩) l.length c2) ∧ wr.cell? ⟨b2, o2 + k, none⟩ = some (.bool x) := by
  have hn : n = D.length := by obtain ⟨_, _, h, _⟩ := Row.get h; exact h
  obtain ⟨b, o, rfl⟩ := addr_of9 h (by have := (List.getElem?_eq_some_iff.1 hl).1; omega)
  obtain ⟨c1, _, ⟨u1, rfl, kx⟩, n1⟩ := cell_of h hl hb
  obtain ⟨A3, k3, rfl⟩ := Row.form kx
  obtain ⟨b2, o2, rfl⟩ := addr_of9 kx (by have := (List.getElem?_eq_some_iff.1 hx).1; omega)
  obtain ⟨c2, _, rfl, n2⟩ := cell_of kx hx hb
  exact ⟨b, o, b2, o2, k3, rfl, n1 _ rfl, n2 _ rfl⟩
set_option maxRecDepth 100000 in
set_option maxHeartbeats 8000000 in
theorem nearest_any (lo hi : Nat) (w : World) (v : Value) (g : List (List Int)) (hg : Graph lo hi w v g) (hh : hi ≤ w.heap.size) (hn : g.length ≤ 1000) (hs : ∀ l ∈ g, l.length ≤ 1000) :
    Calls Try.prog 13 #[v] w (NearP g w) := by
  obtain ⟨A1, k1, rfl⟩ := Row.form hg
  have QA := Lib.hid (all_any lo hi w _ g hg hh hn hs)
  clear hg hs
  go_enter Try.func13, Try.ntmps13
  go_wp2_with fail
  refine QA.out.mono ?_
  rintro e w1 ⟨vd, rfl, od, hb1⟩
  obtain ⟨Ad, cd, hvd⟩ := od.form
  rw [all_len] at hvd
  subst hvd
  have HD := Lib.hid (od.graph (Nat.le_refl _) (by rw [all_len]; omega) (fun l hl => by obtain ⟨i, _, rfl⟩ := List.mem_map.1 hl; rw [rowB_len]; omega))
  have HB1 := Lib.hid hb1
  have hs1 := hb1.size
  clear od hb1
  go_wp2_with fail
  go_loopw [4, 5] (fun vo kv wr => ∃ k : Nat, k ≤ g.length ∧ kv = .int .i64 k ∧ Hid (wr.ownsRow w1.heap.size 3 1 vo k (iC ((nearestV g).take k))) ∧ Hid (Below w1.heap.size w1 wr)) (fun _ kv _ => g.length - (intOf kv).toNat)
  case atStart => exact ⟨0, Nat.zero_le _, rfl, Lib.hid (World.ownsRow_nil _ _ _ _), Lib.hid (Below.refl _ _)⟩
  case round =>
  obtain ⟨k, hk, rfl, HO, HBr⟩ := hrel
  obtain ⟨Ao, co, rfl⟩ := any9 HO.out
  by_cases hlt : k < g.length
  · have HNX := Lib.hid (take_nx (nearest_at hlt))
    go_wp2_with fail
    go_loopw [6, 7] (fun bv iv wr => ∃ i : Nat, i ≤ g.length ∧ iv = .int .i64 i ∧ bv = .int .i64 (bestV g k i) ∧ Hid (wr.ownsRow w1.heap.size 3 1 (.slice Ao k co) k (iC ((nearestV g).take k))) ∧ Hid (Below w1.heap.size w1 wr)) (fun _ iv _ => g.length - (intOf iv).toNat)
    case atStart => exact ⟨0, Nat.zero_le _, rfl, rfl, HO, HBr⟩
    case round =>
    obtain ⟨i, hi9, rfl, rfl, HO, HBr⟩ := hrel
    by_cases hlt2 : i < g.length
    · by_cases hik : i = k
      · have HBN := Lib.hid (show bestV g k (i + 1) = bestV g k i by rw [bestV, if_neg (fun h => h.1 hik)])
        subst hik
        obtain ⟨bb, hbb⟩ : ∃ bb, bestV g i i = bb := ⟨_, rfl⟩
        rw [hbb] at HBN ⊢
        clear hbb
        go_wp2_with fail
        go_roundw
        case rel => exact ⟨i + 1, by omega, by go_num, by rw [HBN.out], HO, HBr⟩
        case measure => simp [intOf]; omega
      · have e1 : ((i : Int) == (k : Int)) = false := by rw [beq_eq_false_iff_ne]; omega
        have e1n : ((i : Int) != (k : Int)) = true := by rw [bne, e1]; rfl
        obtain ⟨b, o, b2, o2, c2, rfl, m1, m2⟩ := cell_bb HD.out HBr.out (all_at hlt2) (rowB_at hlt)
        rw [rowB_len] at m1
        obtain ⟨d1, hd1⟩ : ∃ d, domB g i k = d := ⟨_, rfl⟩
        rw [hd1] at m2
        cases d1 with
        | false =>
          have HBN := Lib.hid (show bestV g k (i + 1) = bestV g k i by rw [bestV, if_neg (fun h => by rw [hd1] at h; cases h.2.1)])
          obtain ⟨bb, hbb⟩ : ∃ bb, bestV g k i = bb := ⟨_, rfl⟩
          rw [hbb] at HBN ⊢
          clear hbb hd1 hik
          go_wp2_with fail
          go_roundw
          case rel => exact ⟨i + 1, by omega, by go_num, by rw [HBN.out], HO, HBr⟩
          case measure => simp [intOf]; omega
        | true =>
          rcases best_in g k i with hb0 | ⟨bq, hbq, hbl⟩
          · have HBN := Lib.hid (show bestV g k (i + 1) = (i : Int) by rw [bestV, if_pos ⟨hik, hd1, .inl (by omega)⟩])
            rw [hb0]
            clear hb0 hd1 hik
            go_wp2_with fail
            go_roundw
            case rel => exact ⟨i + 1, by omega, by go_num, by rw [HBN.out], HO, HBr⟩
            case measure => simp [intOf]; omega
          · obtain ⟨b', o', b3, o3, c3, e9, m3, m4⟩ := cell_bb HD.out HBr.out (all_at (show bq < g.length by omega)) (rowB_at hlt2)
            simp only [Option.some.injEq, Addr.mk.injEq, and_true] at e9
            obtain ⟨rfl, rfl⟩ := e9
            rw [rowB_len] at m3
            obtain ⟨d2, hd2⟩ : ∃ d, domB g bq i = d := ⟨_, rfl⟩
            rw [hd2] at m4
            have hbql : bq < g.length := by omega
            have t0 : decide ((bq : Int) < 0) = false := decide_eq_false (by omega)
            cases d2 with
            | true =>
              have HBN := Lib.hid (show bestV g k (i + 1) = (i : Int) by rw [bestV, if_pos ⟨hik, hd1, .inr (by rw [hbq, Int.toNat_natCast]; exact hd2)⟩])
              rw [hbq]
              clear hbq hd1 hd2 hik hbl
              go_wp2_with fail
              go_roundw
              case rel => exact ⟨i + 1, by omega, by go_num, by rw [HBN.out], HO, HBr⟩
              case measure => simp [intOf]; omega
            | false =>
              have HBN := Lib.hid (show bestV g k (i + 1) = (bq : Int) by rw [bestV, if_neg (fun h => h.2.2.elim (fun h => by omega) (fun h => by rw [hbq, Int.toNat_natCast, hd2] at h; cases h)), hbq])
              rw [hbq]
              clear hbq hd1 hd2 hik hbl
              go_wp2_with fail
              go_roundw
              case rel => exact ⟨i + 1, by omega, by go_num, by rw [HBN.out], HO, HBr⟩
              case measure => simp [intOf]; omega
    · have hie : i = g.length := by omega
      subst hie
      have hs2 := HBr.out.size
      obtain ⟨bb, hbb⟩ : ∃ bb, bestV g k g.length = bb := ⟨_, rfl⟩
      rw [hbb] at HNX ⊢
      clear hbb
      go_wp2_with (at_builtin; refine push_own9 rfl _ _ 25 rfl w1.heap.size 3 _ 1 8 Try.underlying25 info_int9 rfl (by decide) _ k _ rfl HO.out [i64 bb] _ rfl rfl rfl (by intro u hu; rw [List.mem_singleton] at hu; subst hu; rfl) (by unfold maxLen; omega) (by omega) hs2 ?_; intro v7 w7 hown7 hg7; have HO7 := Lib.hid hown7; have HB7 := Lib.hid (HBr.out.grown hg7 hs2 (fun q hq => (HO.out.lt q hq).1)); clear hown7 hg7)
      go_roundw
      case rel => exact ⟨k + 1, by omega, by go_num, Lib.hid (by rw [HNX.out]; have := HO7.out; simpa [iC] using this), HB7⟩
      case measure => simp [intOf]; omega
  · have hke : k = g.length := by omega
    subst hke
    rw [List.take_of_length_le (by rw [nearest_len]; exact Nat.le_refl _)] at HO
    go_wp2_with fail
    go_ret
    exact ⟨_, rfl, Hold.Rec.on.lower (r := ⟨3, 1, _, _, _⟩) HO.out hs1, HB1.out.trans (HBr.out.mono hs1)⟩
end Go.Proofs.Ytdjggoddpohceaa.Dm10
