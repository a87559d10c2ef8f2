/-
  Package show: the lines of an instruction, laid.
-/
import Derived.Test.YtkmndgjabkjafaaGreatDoorLayT
import Derived.Test.YtkmndgjabkjafaaGreatDoorWords8
namespace Go.Proofs.YtkmndgjabkjafaaGreatDoor.Sh6
open Go.RowKit Api Syn WordM Mem Rd5
open LinesM hiding Wd

/-- So far the lines T are laid. -/
def Laid (base lb fb : Nat) (w : World) (ls : List (List Wd)) (left : Int) (T : List (List Wd)) (w' : World) : Prop :=
  LayS base lb fb w' (ls ++ T) (left - (wls T : Nat)) ∧ Below base w w' ∧ KeepO w w'
theorem Laid.start {base lb fb : Nat} {w w' : World} {ls : List (List Wd)} {left : Int} (h : LayS base lb fb w ls left) (hb : Below w.heap.size w w') : Laid base lb fb w ls left [] w' := by
  have hbs : base ≤ w.heap.size := Nat.le_trans h.1 (by obtain ⟨_, _, _, _, _, o, _⟩ := h; exact Nat.le_of_lt o.lt)
  exact ⟨by simpa [wls] using lays_below h hb, hb.mono hbs, KeepO.of_below hb⟩
theorem Laid.size {base lb fb : Nat} {w w' : World} {ls : List (List Wd)} {left : Int} {T : List (List Wd)} (h : Laid base lb fb w ls left T w') : base ≤ w'.heap.size := by
  obtain ⟨⟨h1, _, _, _, _, o, _⟩, _⟩ := h
  exact Nat.le_trans h1 (Nat.le_of_lt o.lt)
theorem Laid.below {base lb fb : Nat} {w w1 w' : World} {ls : List (List Wd)} {left : Int} {T : List (List Wd)} (h : Laid base lb fb w ls left T w1) (hb : Below w1.heap.size w1 w') : Laid base lb fb w ls left T w' :=
  ⟨lays_below h.1 hb, h.2.1.trans (hb.mono h.size), h.2.2.trans (KeepO.of_below hb)⟩
theorem len_wlen (ws : List Wd) : ws.length ≤ wlen ws := by
  unfold wlen
  induction ws with
  | nil => simp
  | cons x l ih => simp; omega
/-- A line more. -/
theorem Laid.more {base lb fb : Nat} {w w1 : World} {ls : List (List Wd)} {left : Int} {T : List (List Wd)} {ws : List Wd} {v : Value} (h : Laid base lb fb w ls left T w1) (hv : w1.ownsRow base 9 1 v ws.length (LinesM.strs ws)) (hl : ls.length + T.length ≤ 1099511627776) (hT : wls (T ++ [ws]) ≤ 1099511627776) (h1 : -1152921504606846976 ≤ left) (h2 : left ≤ 4194304) :
    Calls Tryz.prog 50 #[v, .pointer (some ⟨fb, 0, none⟩), .pointer (some ⟨lb, 0, none⟩)] w1 fun e w' => e = .returned (.tuple #[]) ∧ Laid base lb fb w ls left (T ++ [ws]) w' ∧ KeepO w1 w' := by
  rw [wls_app, wls_one] at hT
  have hn := len_wlen ws
  refine (lay_any w1 base lb fb _ _ v ws h.1 hv (by rw [List.length_append]; omega) (by omega) (by omega) (by omega)).mono ?_
  rintro e w9 ⟨rfl, hp⟩
  exact ⟨rfl, LaidP.next h.2.1 h.2.2 hp, hp.2.2⟩
theorem wls_pre (A B : List (List Wd)) : wls A ≤ wls (A ++ B) := by rw [wls_app]; omega
theorem wls_takes {α : Type} (f : α → List Wd) (T B : List (List Wd)) (l : List α) (k : Nat) : wls (T ++ (l.take k).map f) ≤ wls (T ++ (l.map f ++ B)) := by
  rw [wls_app, wls_app, wls_app]
  have := wls_take f l k
  omega
theorem state_right {x : Instr} (h : instrR x = true) : ((∀ f ∈ x.frames, frameR f = true) ∧ x.frames.length ≤ 16) ∧ ((∀ o ∈ x.objs, virtR o = true) ∧ x.objs.length ≤ 99) := by
  unfold instrR at h
  simp only [Bool.and_eq_true] at h
  have hs := h.2.2.2.2.2
  unfold stateR at hs
  split at hs
  · simp only [Bool.and_eq_true, decide_eq_true_eq, List.length_eq_zero_iff] at hs
    rw [hs.1, hs.2]
    simp
  · simp only [Bool.and_eq_true] at hs
    unfold allR at hs
    simp only [Bool.and_eq_true, decide_eq_true_eq, List.all_eq_true] at hs
    exact ⟨⟨hs.1.2, hs.1.1⟩, ⟨hs.2.2, hs.2.1⟩⟩
theorem frame_right {f : Api.Frame} (h : frameR f = true) : NumM.In f.pos ∧ f.vars.length ≤ 16 := by
  unfold frameR allR at h
  simp only [Bool.and_eq_true, decide_eq_true_eq] at h
  exact ⟨by unfold NumM.In; omega, h.2.2.2.1⟩
theorem virt_right {o : Virt} (h : virtR o = true) : o.vals.length ≤ 8 := by
  unfold virtR allR at h
  simp only [Bool.and_eq_true, decide_eq_true_eq] at h
  exact h.2.1
set_option maxRecDepth 100000 in
set_option maxHeartbeats 8000000 in
theorem layInstr_any (lo hi : Nat) (w : World) (base lb fb : Nat) (ls : List (List Wd)) (left : Int) (cs : List Value) (x : Instr) (hx : InstrC lo hi w cs x) (hh : hi ≤ base) (hL : LaidS w) (hR : instrR x = true) (hI : instrI x) (hS : LayS base lb fb w ls left) (hl : ls.length ≤ 549755813888) (hT : wls (instrLs x) ≤ 549755813888) (h1 : -1152921504606846976 ≤ left) (h2 : left ≤ 4194304) :
    Calls Tryz.prog 106 #[.agg cs.toArray, layV fb lb] w (LaidP base lb fb w ls left (instrLs x)) := by
  have hbs : base ≤ w.heap.size := Nat.le_trans hS.1 (by obtain ⟨_, _, _, _, _, o, _⟩ := hS; exact Nat.le_of_lt o.lt)
  have hx0 := hx
  obtain ⟨u1, u2, u3, rfl, ka, kf, ko⟩ := hx
  obtain ⟨A2, n2, c2, b2, off2, rfl, hn2, ⟨hm2, hcc2⟩, ha2, hc2⟩ := kf
  obtain ⟨A3, n3, c3, b3, off3, rfl, hn3, ⟨hm3, hcc3⟩, ha3, hc3⟩ := ko
  obtain ⟨A1, n1, c1, _, _, rfl, hq1, _⟩ := ka
  clear hq1
  obtain ⟨W, hW⟩ : ∃ W, w.alloc (.cells #[i64 x.op, str x.dst, str x.name, .slice A1 n1 c1, .slice A2 n2 c2, .slice A3 n3 c3] 52) = W := ⟨_, rfl⟩
  have hO : Own W w.heap.size 52 [i64 x.op, str x.dst, str x.name, .slice A1 n1 c1, .slice A2 n2 c2, .slice A3 n3 c3] := by rw [← hW]; exact Own.made w _ [i64 x.op, str x.dst, str x.name, .slice A1 n1 c1, .slice A2 n2 c2, .slice A3 n3 c3]
  have hbW : Below w.heap.size w W := by rw [← hW]; exact (Below.refl _ _).alloc (Nat.le_refl _) _
  have QI := Lib.hid (instrWords_any lo hi W _ x (InstrC.move (Still.of_below (hbW.mono (Nat.le_trans hh hbs))) hx0) (Nat.le_trans (Nat.le_trans hh hbs) hbW.size) hI.1 (hL.below hbW (Nat.le_refl _)) hR)
  have HS0 := Lib.hid (Laid.start hS hbW)
  have HO := Lib.hid hO
  have HW := Lib.hid hW
  have HT := Lib.hid hT
  have HC2 := Lib.hid hc2
  have HC3 := Lib.hid hc3
  have HA2 := Lib.hid ha2
  have HA3 := Lib.hid ha3
  have HN2 := Lib.hid hn2
  have HN3 := Lib.hid hn3
  have HR := Lib.hid hR
  have HI := Lib.hid hI
  have HH := Lib.hid hh
  clear hO hW hT hc2 hc3 ha2 ha3 hn2 hn3 hR hI hx0 hbW hS hL hh hbs hcc2 hcc3
  go_enter Tryz.func106, Tryz.ntmps106
  go_wp2_with fail
  rw [HW.out]
  refine QI.out.mono ?_
  rintro e w5 ⟨v5, rfl, ho5, hb5⟩
  have HL5 := Lib.hid (HS0.out.below hb5)
  have HR5 := Lib.hid (LinesM.own_lower ho5 HS0.out.size)
  have HO5 := Lib.hid (HO.out.below hb5 HO.out.lt)
  clear ho5 hb5
  have hT1 : wls ([] ++ [instrL x]) ≤ 1099511627776 := by
    have h := HT.out
    unfold instrLs at h
    have h3 := wls_pre [instrL x] (x.frames.map frameL ++ x.objs.map virtL)
    simp only [List.cons_append, List.nil_append] at h3 ⊢
    omega
  have QL := Lib.hid (Laid.more HL5.out HR5.out (by simp; omega) hT1 h1 h2)
  clear hT1
  go_wp2_with ((with_reducible refine QL.out.mono ?_); rintro e w7 ⟨rfl, hp, hk7⟩; have HP7 := Lib.hid hp; have HO7 := Lib.hid (hk7 _ _ _ HO5.out (by decide) (by decide) (by decide)); have g4 := HO7.out.cell 4; have g5 := HO7.out.cell 5; simp only [List.getElem?_cons_succ, List.getElem?_cons_zero] at g4 g5; clear hp hk7)
  clear g4 g5
  go_loopw [15] (fun i wr => ∃ k : Nat, k ≤ n2 ∧ i = .int .i64 k ∧ Hid (Laid base lb fb w ls left (([] ++ [instrL x]) ++ (x.frames.take k).map frameL) wr) ∧ Hid (Own wr w.heap.size 52 [i64 x.op, str x.dst, str x.name, .slice A1 n1 c1, .slice A2 n2 c2, .slice A3 n3 c3])) (fun i _ => n2 - (intOf i).toNat)
  case atStart => exact ⟨0, Nat.zero_le _, rfl, Lib.hid (by simpa using HP7.out), HO7⟩
  case round =>
  obtain ⟨k, hk, rfl, HP, HOr⟩ := hrel
  by_cases hlt : k < n2
  · obtain ⟨f, hf⟩ : ∃ y, x.frames[k]? = some y := ⟨_, List.getElem?_eq_getElem (by have := HN2.out; omega)⟩
    obtain ⟨rfl, _, hb1⟩ := HA2.out (by omega)
    obtain ⟨cs, _, q1, hfc⟩ := HC2.out k _ hf
    have hmem := List.mem_of_getElem? hf
    have hfr := frame_right ((state_right HR.out).1.1 f hmem)
    have hfi := HI.out.2.1 f hmem
    have hlen := (state_right HR.out).1.2
    have hf0 := hfc
    obtain ⟨u, rfl, hbf⟩ := hfc
    obtain ⟨B4, c4, rfl⟩ := hbf.form
    clear hbf
    obtain ⟨n0, n1', n2', n3'⟩ := at4 (cells_later q1 HP.out.2.1 (show b2 < base by have := HH.out; omega))
    obtain ⟨fn, bk, ps, fv⟩ := f
    simp only at hf0 hfr hfi n0 n1' n2' n3'
    have hbx : Below wr.heap.size wr (wr.alloc (.cells #[str fn, str bk, i64 ps, .slice B4 fv.length c4] 167)) := (Below.refl _ _).alloc (Nat.le_refl _) _
    have e1 : (([] ++ [instrL x]) ++ (x.frames.take k).map frameL) ++ [frameL ⟨fn, bk, ps, fv⟩] = ([] ++ [instrL x]) ++ (x.frames.take (k + 1)).map frameL := by rw [LinesM.take_next hf, List.map_append, List.append_assoc]; rfl
    have hT2 : wls ((([] ++ [instrL x]) ++ (x.frames.take k).map frameL) ++ [frameL ⟨fn, bk, ps, fv⟩]) ≤ 1099511627776 := by
      have h := HT.out
      unfold instrLs at h
      have h3 := wls_takes frameL [instrL x] (x.objs.map virtL) x.frames (k + 1)
      rw [e1]
      simp only [List.cons_append, List.nil_append] at h3 ⊢
      omega
    have HL8 := Lib.hid (HP.out.below hbx)
    have HO8 := Lib.hid (HOr.out.below hbx HOr.out.lt)
    have QF := Lib.hid (frameWords_any lo hi _ _ ⟨fn, bk, ps, fv⟩ (FrameC.move (Still.of_below (HL8.out.2.1.mono HH.out)) hf0) (Nat.le_trans HH.out HL8.out.size) hfr.1 hfi (by simp only; omega))
    have HT2 := Lib.hid hT2
    have HE1 := Lib.hid e1
    have hlen2 : ls.length + (([] ++ [instrL x]) ++ (x.frames.take k).map frameL).length ≤ 1099511627776 := by simp; omega
    have HLN := Lib.hid hlen2
    clear hlen2 hT2 e1 hbx hf0 hfr hfi hlen hmem hf q1
    go_wp2_with (first
      | ((with_reducible refine QF.out.mono ?_); rintro e w9 ⟨v9, rfl, ho9, hb9⟩; have HL9 := Lib.hid (HL8.out.below hb9); have HR9 := Lib.hid (LinesM.own_lower ho9 HL8.out.size); have HO9 := Lib.hid (HO8.out.below hb9 HO8.out.lt); clear ho9 hb9)
      | ((with_reducible refine (Laid.more HL9.out HR9.out HLN.out HT2.out h1 h2).mono ?_); rintro e w11 ⟨rfl, hp, hk11⟩; have HP11 := Lib.hid hp; have HO11 := Lib.hid (hk11 _ _ _ HO9.out (by decide) (by decide) (by decide)); clear hp hk11))
    go_roundw
    case rel => exact ⟨k + 1, by omega, by go_num, Lib.hid (by rw [← HE1.out]; exact HP11.out), HO11⟩
    case measure => simp [intOf]; omega
  · have hkn : x.frames.take k = x.frames := List.take_of_length_le (by have := HN2.out; omega)
    rw [hkn] at HP
    have g5 := HOr.out.cell 5
    simp only [List.getElem?_cons_succ, List.getElem?_cons_zero] at g5
    go_wp2
    clear g5 hlt hk hkn HC2 HA2 HN2
    go_loopw [27] (fun i wr => ∃ k : Nat, k ≤ n3 ∧ i = .int .i64 k ∧ Hid (Laid base lb fb w ls left ((([] ++ [instrL x]) ++ x.frames.map frameL) ++ (x.objs.take k).map virtL) wr)) (fun i _ => n3 - (intOf i).toNat)
    case atStart => exact ⟨0, Nat.zero_le _, rfl, Lib.hid (by simpa using HP.out)⟩
    case round =>
    obtain ⟨k, hk, rfl, HQ⟩ := hrel
    by_cases hlt : k < n3
    · obtain ⟨f, hf⟩ : ∃ y, x.objs[k]? = some y := ⟨_, List.getElem?_eq_getElem (by have := HN3.out; omega)⟩
      obtain ⟨rfl, _, hb1⟩ := HA3.out (by omega)
      obtain ⟨cs, _, q1, hfc⟩ := HC3.out k _ hf
      have hmem := List.mem_of_getElem? hf
      have hfr := virt_right ((state_right HR.out).2.1 f hmem)
      have hfi := HI.out.2.2 f hmem
      have hlen := (state_right HR.out).2.2
      have hlen1 := (state_right HR.out).1.2
      have hf0 := hfc
      obtain ⟨u, rfl, hbf⟩ := hfc
      obtain ⟨B4, c4, rfl⟩ := hbf.form
      clear hbf
      obtain ⟨n0, n1'⟩ := at2 (cells_later q1 HQ.out.2.1 (show b3 < base by have := HH.out; omega))
      obtain ⟨fn, fv⟩ := f
      simp only at hf0 hfr hfi n0 n1'
      have hbx : Below wr.heap.size wr (wr.alloc (.cells #[str fn, .slice B4 fv.length c4] 169)) := (Below.refl _ _).alloc (Nat.le_refl _) _
      have e1 : ((([] ++ [instrL x]) ++ x.frames.map frameL) ++ (x.objs.take k).map virtL) ++ [virtL ⟨fn, fv⟩] = (([] ++ [instrL x]) ++ x.frames.map frameL) ++ (x.objs.take (k + 1)).map virtL := by rw [LinesM.take_next hf, List.map_append, List.append_assoc]; rfl
      have hT2 : wls (((([] ++ [instrL x]) ++ x.frames.map frameL) ++ (x.objs.take k).map virtL) ++ [virtL ⟨fn, fv⟩]) ≤ 1099511627776 := by
        have h := HT.out
        unfold instrLs at h
        have h3 := wls_takes virtL ([instrL x] ++ x.frames.map frameL) [] x.objs (k + 1)
        rw [e1]
        simp only [List.cons_append, List.nil_append, List.append_nil] at h3 ⊢
        omega
      have HL8 := Lib.hid (HQ.out.below hbx)
      have QF := Lib.hid (virtWords_any lo hi _ _ ⟨fn, fv⟩ (VirtC.move (Still.of_below (HL8.out.2.1.mono HH.out)) hf0) (Nat.le_trans HH.out HL8.out.size) hfi (by simp only; omega))
      have HT2 := Lib.hid hT2
      have HE1 := Lib.hid e1
      have hlen2 : ls.length + ((([] ++ [instrL x]) ++ x.frames.map frameL) ++ (x.objs.take k).map virtL).length ≤ 1099511627776 := by simp; omega
      have HLN := Lib.hid hlen2
      clear hlen2 hT2 e1 hbx hf0 hfr hfi hlen hlen1 hmem hf q1
      go_wp2_with (first
        | ((with_reducible refine QF.out.mono ?_); rintro e w9 ⟨v9, rfl, ho9, hb9⟩; have HL9 := Lib.hid (HL8.out.below hb9); have HR9 := Lib.hid (LinesM.own_lower ho9 HL8.out.size); clear ho9 hb9)
        | ((with_reducible refine (Laid.more HL9.out HR9.out HLN.out HT2.out h1 h2).mono ?_); rintro e w11 ⟨rfl, hp, _⟩; have HP11 := Lib.hid hp; clear hp))
      go_roundw
      case rel => exact ⟨k + 1, by omega, by go_num, Lib.hid (by rw [← HE1.out]; exact HP11.out)⟩
      case measure => simp [intOf]; omega
    · have hkn : x.objs.take k = x.objs := List.take_of_length_le (by have := HN3.out; omega)
      rw [hkn] at HQ
      go_wp2
      go_end0
      refine ⟨rfl, ?_⟩
      have h9 := HQ.out
      have e : (([] ++ [instrL x]) ++ x.frames.map frameL) ++ x.objs.map virtL = instrLs x := by unfold instrLs; simp
      rw [e] at h9
      exact h9
end Go.Proofs.YtkmndgjabkjafaaGreatDoor.Sh6
