/-
  Layer 8: the program's test of a phi's Ins.
-/
import Derived.Test.YtdmjghhgmpnacaaShRight
namespace Go.Proofs.Ytdmjghhgmpnacaa.Sh8
open Go.RowKit Api Mem Go.Maps

def inC (x : Bind) : List Value := bindC x
abbrev bdG (l : List Bind) : Prop := ∀ b ∈ l, b.name.length ≤ 140737488351232
theorem take_one {l : List Bind} {k : Nat} {x : Bind} (hx : l[k]? = some x) : (l.map (·.name)).take (k + 1) = (l.map (·.name)).take k ++ [x.name] := by
  obtain ⟨hk, e⟩ := List.getElem?_eq_some_iff.1 hx
  have hk2 : k < (l.map (·.name)).length := by simpa using hk
  rw [List.take_succ_eq_append_getElem hk2]
  simp [e]
theorem look_run {P : Program} {t k e : TypeId} (K : Keyed P k) (ht : P.underlying t = some (.map k e)) {w : World} (hz : (zeroValue e).run P w = .ok (.agg #[]) w) {b n : Nat} {D : DataW Unit} (h : w.ownsMap P k unitElem b n D) {key : Value} {kl : Lit} (hkey : keyOf P k key = some kl) {d : Bool} (hd : has D kl = d) :
    (Instr.lookup t (.map (some b)) key true).run P w = .ok (.tuple #[.agg #[], .bool d]) w := by
  obtain ⟨v, ps, h1, h2⟩ := h.look_ok K ht hz unitElem_mk hkey
  obtain ⟨rfl, _⟩ := unitElem_inv h2
  rw [h1, hd]
def OneP (l : List Wd) (ins : List Bind) : Prop := ins.length = size (setD l) ∧ (∀ y ∈ ins.map (·.name), y ∈ l) ∧ (ins.map (·.name)).Nodup
set_option maxRecDepth 100000 in
set_option maxHeartbeats 8000000 in
theorem one_any (lo hi : Nat) (w : World) (v : Value) (ins : List Bind) (hv : Binds lo hi w v ins) (hh : hi ≤ w.heap.size) (hn : ins.length ≤ 1099511627776) (hG : bdG ins) (g : Nat) (l : List Wd) (m : Nat) (hM : w.ownsMap Try.prog 9 unitElem g m (setD l)) :
    Calls Try.prog 23 #[v, .map (some g)] w (BP (OneP l ins) w) := by
  obtain ⟨A1, k1, rfl⟩ := Row.form hv
  have hgl := hM.lt
  have hmm := @run_makeMap Try.prog
  have hlen := fun (ty : TypeId) => len_run Try.underlying60 hM ty rfl
  obtain ⟨s, hs⟩ : ∃ s, size (setD l) = s := ⟨_, rfl⟩
  rw [hs] at hlen
  have HM := Lib.hid hM
  have HM0 := Lib.hid (World.ownsMap_made (H := Unit) w Try.prog 9 unitElem)
  have HB0 : Hid (Below w.heap.size w (w.alloc (.map #[] 0))) := Lib.hid ((Below.refl _ _).alloc (Nat.le_refl _) _)
  have HV := Lib.hid hv
  have HG := Lib.hid hG
  have HS := Lib.hid hs
  clear hM hv hG hs
  by_cases hd : ins.length = s
  · have e0 : ((ins.length : Int) == (s : Int)) = true := by simp [hd]
    have HEQ := Lib.hid hd
    clear hd
    go_enter Try.func23, Try.ntmps23
    go_wp2_with fail
    go_loopw [18] (fun i wr => ∃ k : Nat, k ≤ ins.length ∧ i = .int .i64 k ∧ Hid (wr.ownsMap Try.prog 9 unitElem w.heap.size k (setD ((ins.map (·.name)).take k))) ∧ Hid (∀ y ∈ (ins.map (·.name)).take k, y ∈ l) ∧ Hid (Below w.heap.size w wr)) (fun i _ => ins.length - (intOf i).toNat)
    case atStart => exact ⟨0, Nat.zero_le _, rfl, HM0, Lib.hid (fun y hy => by simp at hy), HB0⟩
    case round =>
    obtain ⟨k, hk, rfl, HD, HIN, HBr⟩ := hrel
    by_cases hlt : k < ins.length
    · obtain ⟨⟨bn, ⟨ak, as_, an⟩⟩, hx⟩ : ∃ y, ins[k]? = some y := ⟨_, List.getElem?_eq_getElem (by omega)⟩
      have hv2 := HV.out
      obtain ⟨b3, of3, hn3, hm3, a3, j3⟩ := Row.get hv2
      obtain ⟨rfl, _, hb3⟩ := a3 (by omega)
      obtain ⟨cs3, _, q3, hu⟩ := j3 k _ hx
      subst hu
      obtain ⟨m0, m1, m2, m3⟩ := at4 (cells_later q3 HBr.out (by omega))
      have HX := Lib.hid hx
      have HKEY := Lib.hid (key_at (HG.out _ (List.mem_of_getElem? hx)))
      have HMW := Lib.hid (owns_below HM.out HBr.out hgl)
      clear q3 j3 a3 hx hv2
      obtain ⟨W1, hW1⟩ : ∃ W1, wr.alloc (.cells #[str bn, i64 ak, str as_, i64 an] 48) = W1 := ⟨_, rfl⟩
      have hm1 : W1.ownsMap Try.prog 9 unitElem g m (setD l) := by rw [← hW1]; exact HMW.out.alloc _
      have hm2 := hm1.alloc (.cells #[] 61)
      by_cases hin : bn ∈ l
      · have hlk1 := look_run (t := 60) lawS Try.underlying60 (zeroU _) hm1 HKEY.out ((setD_has l bn).trans (decide_eq_true hin))
        have hlk2 := look_run (t := 60) lawS Try.underlying60 (zeroU _) hm2 HKEY.out ((setD_has l bn).trans (decide_eq_true hin))
        rw [← hW1] at hlk1 hlk2
        have HI := Lib.hid hin
        clear hin hm1 hm2 hW1
        have HW2 := Lib.hid ((HD.out.alloc (.cells #[str bn, i64 ak, str as_, i64 an] 48)).alloc (.cells #[] 61))
        have HB2 : Hid (Below w.heap.size w ((wr.alloc (.cells #[str bn, i64 ak, str as_, i64 an] 48)).alloc (.cells #[] 61))) := Lib.hid ((HBr.out.alloc HBr.out.size _).alloc (Nat.le_trans HBr.out.size (by simp)) _)
        go_wp2_with (first | (at_mapUpdate; refine wpList_mapUpdate_own _ rfl _ _ _ 60 rfl 9 61 lawS Try.underlying60 _ w.heap.size k _ rfl HW2.out (by unfold maxLen; omega) _ _ _ rfl rfl HKEY.out _ [] unitElem_mk ?_; intro w9 hown9 hg9; have HO9 := Lib.hid hown9; have HG9 := Lib.hid hg9; clear hown9 hg9) | go_in)
        go_roundw
        case rel => exact ⟨_, _, _, _, _, ⟨k + 1, by omega, by go_num, Lib.hid (by rw [take_one HX.out, setD_snoc]; exact HO9.out), Lib.hid (by
          rw [take_one HX.out]
          intro y hy
          rcases List.mem_append.1 hy with hy | hy
          · exact HIN.out y hy
          · simp at hy
            rw [hy]
            exact HI.out), Lib.hid (HB2.out.grown HG9.out HB2.out.size (fun j hj => by cases hj; exact Nat.le_refl _))⟩, rfl, rfl, rfl, rfl, rfl⟩
        case measure => simp [intOf]; omega
      · have hlk1 := look_run (t := 60) lawS Try.underlying60 (zeroU _) hm1 HKEY.out ((setD_has l bn).trans (decide_eq_false hin))
        have hlk2 := look_run (t := 60) lawS Try.underlying60 (zeroU _) hm2 HKEY.out ((setD_has l bn).trans (decide_eq_false hin))
        rw [← hW1] at hlk1 hlk2
        have HI := Lib.hid hin
        clear hin hm1 hm2 hW1
        go_wp2_with fail
        go_ret
        exact ⟨false, rfl, ⟨fun h => (by cases h), fun h => absurd (h.2.1 bn (List.mem_map.2 ⟨_, List.mem_of_getElem? HX.out, rfl⟩)) HI.out⟩, (HBr.out.alloc HBr.out.size _).alloc (Nat.le_trans HBr.out.size (by simp)) _⟩
    · have hall : (ins.map (·.name)).take k = ins.map (·.name) := List.take_of_length_le (by simp; omega)
      have hD2 := HD.out
      have hI2 := HIN.out
      rw [hall] at hD2 hI2
      obtain ⟨s2, hs2⟩ : ∃ s2, size (setD (ins.map (·.name))) = s2 := ⟨_, rfl⟩
      have hlen2 := fun (ty : TypeId) => len_run Try.underlying60 hD2 ty hs2
      have HD2 := Lib.hid hD2
      have HI2 := Lib.hid hI2
      have HS2 := Lib.hid hs2
      clear hall hD2 hI2 hs2
      go_wp2_with fail
      go_ret
      refine ⟨_, rfl, ?_, HBr.out⟩
      have h9 := setD_size (ins.map (·.name))
      rw [HS2.out, List.length_map] at h9
      unfold OneP
      rw [← h9]
      have h8 := HEQ.out
      constructor
      · intro h
        refine ⟨by rw [HS.out]; exact HEQ.out, HI2.out, ?_⟩
        simp at h
        omega
      · intro h
        have := h.2.2
        simp
        omega
  · have e0 : ((ins.length : Int) == (s : Int)) = false := by simp; omega
    have HD := Lib.hid hd
    clear hd
    go_enter Try.func23, Try.ntmps23
    go_wp2_with fail
    go_ret
    exact ⟨false, rfl, ⟨fun h => (by cases h), fun h => absurd (h.1.trans HS.out) HD.out⟩, Below.refl _ _⟩
end Go.Proofs.Ytdmjghhgmpnacaa.Sh8
