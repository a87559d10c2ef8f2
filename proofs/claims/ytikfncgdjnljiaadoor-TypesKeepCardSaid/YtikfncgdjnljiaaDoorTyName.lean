/-
  Package types: names of things, each one once.
-/
import Derived.Test.YtikfncgdjnljiaaDoorTyFind
import Derived.Test.YtikfncgdjnljiaaDoorShMap
import Derived.Test.YtikfncgdjnljiaaDoorTyCalls
namespace Go.Proofs.YtikfncgdjnljiaaDoor.Ty7
open Go.RowKit Api Syn WordM Mem Sh8 Go.Maps

theorem names_below {P : Program} {k : TypeId} {R : Value → Option (DataW Unit × List MemPlace)} {w w' : World} {g n B : Nat} {D : DataW Unit} (h : w.ownsMap P k R g n D) (hb : Below B w w') (hg : g < B) : w'.ownsMap P k R g n D := by
  obtain ⟨es, clock, h1, r⟩ := h
  exact ⟨es, clock, (hb.block g hg).trans h1, r⟩
theorem names_len {P : Program} {k e t : TypeId} (ht : P.underlying t = some (.map k e)) {R : Value → Option (DataW Unit × List MemPlace)} {w : World} {b n : Nat} {D : DataW Unit} (hown : w.ownsMap P k R b n D) (ty : TypeId) {s : Nat} (hs : Go.Maps.size D = s) : (Builtin.len_ #[t] ty #[.map (some b)]).run P w = .ok (.int .i64 (s : Int)) w := by
  rw [← hs]
  exact hown.len ht ty
theorem names_has {P : Program} {t k e : TypeId} (K : Keyed P k) (ht : P.underlying t = some (.map k e)) {w : World} (hz : (zeroValue e).run P w = .ok (.agg #[]) w) {b n : Nat} {D : DataW Unit} (h : w.ownsMap P k unitElem b n D) {key : Value} {kl : Lit} (hkey : keyOf P k key = some kl) {d : Bool} (hd : has D kl = d) :
    (Instr.lookup t (.map (some b)) key true).run P w = .ok (.tuple #[.agg #[], .bool d]) w := by
  obtain ⟨v, ps, h1, h2⟩ := h.look_ok K ht hz unitElem_mk hkey
  obtain ⟨rfl, _⟩ := unitElem_inv h2
  rw [h1, hd]
theorem take_nm {α β : Type} {f : α → β} {l : List α} {k : Nat} {x : α} (hx : l[k]? = some x) : (l.map f).take (k + 1) = (l.map f).take k ++ [f x] := by
  obtain ⟨h1, h2⟩ := List.getElem?_eq_some_iff.1 hx
  rw [List.take_succ_eq_append_getElem (by simpa using h1)]
  simp [h2]
/-- What namesOf answers. -/
def NamesP (l : List Wd) (w : World) (e : Ending) (w' : World) : Prop :=
  ∃ g, e = .returned (.map (some g)) ∧ w.heap.size ≤ g ∧ g < w'.heap.size ∧ w'.ownsMap Tryd.prog 9 unitElem g l.length (setD l) ∧ Below w.heap.size w w'

set_option maxRecDepth 100000 in
set_option maxHeartbeats 8000000 in
theorem namesClass_any (lo hi : Nat) (w : World) (v : Value) (l : List Class) (h : Classes lo hi w v l) (hh : hi ≤ w.heap.size) (hn9 : l.length ≤ 1099511627776) (hG : ∀ x ∈ l, x.name.length ≤ 140737488351232) :
    Calls Tryd.prog 65 #[v, fv 37] w (NamesP (l.map fun x => x.name) w) := by
  obtain ⟨A, n, cap, b, off, rfl, hn, hm2, ha, hc⟩ := h
  have hE := enters7 Tryd.func37 (by kernel_rfl) (show Tryd.f37.body = some _ from rfl)
  have hmm := @run_makeMap Tryd.prog
  have HM0 := Lib.hid (World.ownsMap_made (H := Unit) w Tryd.prog 9 unitElem)
  have HB0 : Hid (Below w.heap.size w (w.alloc (.map #[] 0))) := Lib.hid ((Below.refl _ _).alloc (Nat.le_refl _) _)
  have HC := Lib.hid hc
  have HA := Lib.hid ha
  have HN := Lib.hid hn
  have HG := Lib.hid hG
  have HN9 := Lib.hid hn9
  clear hc ha hn hG hn9
  go_enter Tryd.func65, Tryd.ntmps65
  go_wp2_with fail
  go_loopw [11] (fun i wr => ∃ k : Nat, k ≤ n ∧ i = .int .i64 k ∧ Hid (wr.ownsMap Tryd.prog 9 unitElem w.heap.size k (setD ((l.map (·.name)).take k))) ∧ Hid (Below w.heap.size w wr)) (fun i _ => n - (intOf i).toNat)
  case atStart => exact ⟨0, Nat.zero_le _, rfl, HM0, HB0⟩
  case round =>
  obtain ⟨k, hk, rfl, HD, HBr⟩ := hrel
  by_cases hlt : k < n
  · obtain ⟨⟨nm, fl⟩, hx⟩ : ∃ x, l[k]? = some x := ⟨_, List.getElem?_eq_getElem (by have := HN.out; omega)⟩
    obtain ⟨rfl, _, hb1⟩ := HA.out (by omega)
    obtain ⟨cs, _, q1, hu⟩ := HC.out k _ hx
    have hb1 : b < w.heap.size := by omega
    obtain ⟨y1, rfl, g1⟩ := hu; obtain ⟨B1, k1, rfl⟩ := g1.form
    obtain ⟨n0, n1⟩ := at2 (cells_later q1 HBr.out hb1)
    obtain ⟨sn, hsn⟩ : ∃ s : ByteArray, (str nm : Value) = .string s := ⟨_, rfl⟩
    have HX := Lib.hid hx
    have HKEY := Lib.hid (key_at (HG.out _ (List.mem_of_getElem? hx)))
    have QN := Lib.hid fun w' => className_any w' [str nm, .slice B1 fl.length k1] sn _ (by rw [← hsn]) rfl
    have HSN := Lib.hid hsn
    have HDX := Lib.hid (HD.out.alloc (.cells #[str nm, .slice B1 fl.length k1] 36))
    have HBX := Lib.hid (HBr.out.alloc HBr.out.size (.cells #[str nm, .slice B1 fl.length k1] 36))
    have hk9 : k ≤ 1099511627776 := by have := HN9.out; have := HN.out; omega
    have hgl := HD.out.lt
    clear hx q1 hsn
    simp only at n0 n1
    go_wp2_with fail
    refine (QN.out _).mono ?_
    rintro e w5 ⟨rfl, hb5⟩
    have HD5 := Lib.hid (names_below HDX.out hb5 HDX.out.lt)
    have HB5 := Lib.hid (HBX.out.trans (hb5.mono HBX.out.size))
    have HK2 := Lib.hid (show keyOf Tryd.prog 9 (.string sn) = some (kS nm) by rw [← HSN.out]; exact HKEY.out)
    clear hb5
    go_wp2_with (first | (at_mapUpdate; refine wpList_mapUpdate_own _ rfl _ _ _ 111 rfl 9 137 lawS Tryd.underlying111 _ w.heap.size k _ rfl HD5.out (by unfold maxLen; omega) _ _ _ rfl rfl HK2.out _ [] unitElem_mk ?_; intro w9 hown9 hg9; have HO9 := Lib.hid hown9; have HB9 := Lib.hid (HB5.out.grown hg9 HB5.out.size (fun j hj => by cases hj; exact Nat.le_refl _)); clear hown9 hg9) | go_in)
    go_roundw
    case rel => exact ⟨k + 1, by omega, by go_num, Lib.hid (by rw [take_nm HX.out, setD_snoc]; exact HO9.out), HB9⟩
    case measure => simp [intOf]; omega
  · have hall : (l.map (·.name)).take k = l.map (·.name) := List.take_of_length_le (by simp; have := HN.out; omega)
    rw [hall] at HD
    have hkn : k = l.length := by have := HN.out; omega
    have HE := Lib.hid (show wr.ownsMap Tryd.prog 9 unitElem w.heap.size (l.map fun x => x.name).length (setD (l.map fun x => x.name)) by rw [List.length_map, ← hkn]; exact HD.out)
    clear hkn hall
    go_wp2_with fail
    go_ret
    exact ⟨_, rfl, Nat.le_refl _, HE.out.lt, HE.out, HBr.out⟩

set_option maxRecDepth 100000 in
set_option maxHeartbeats 8000000 in
theorem unlikeClass_any (lo hi : Nat) (w : World) (v : Value) (l : List Class) (h : Classes lo hi w v l) (hh : hi ≤ w.heap.size) (hn9 : l.length ≤ 1099511627776) (hG : ∀ x ∈ l, x.name.length ≤ 140737488351232) :
    Calls Tryd.prog 62 #[v, fv 37] w fun e w' => e = .returned (.bool (unlikeT (l.map fun x => x.name))) ∧ Below w.heap.size w w' := by
  have QN := Lib.hid (namesClass_any lo hi w v l h hh hn9 hG)
  obtain ⟨A, cap, rfl⟩ := Row.form h
  clear h hG
  go_enter Tryd.func62, Tryd.ntmps62
  go_wp2_with fail
  refine QN.out.mono ?_
  rintro e w5 ⟨g, rfl, hg1, hg2, hown, hb⟩
  obtain ⟨s, hs⟩ : ∃ s, size (setD (l.map fun x => x.name)) = s := ⟨_, rfl⟩
  have hlen := fun (ty : TypeId) => names_len Tryd.underlying111 hown ty hs
  have hb9 : unlikeT (l.map fun x => x.name) = ((s : Int) == (l.length : Int)) := by
    have h1 := setD_size (l.map fun x => x.name)
    rw [hs, List.length_map] at h1
    unfold unlikeT
    by_cases e : s = l.length
    · rw [decide_eq_true (h1.1 e)]; simp [e]
    · rw [decide_eq_false (fun h => e (h1.2 h))]; symm; rw [beq_eq_false_iff_ne]; omega
  have HB := Lib.hid hb
  have H9 := Lib.hid hb9
  clear hb hown hs hb9 hg1 hg2
  go_wp2_with fail
  go_ret
  exact ⟨by rw [H9.out]; rfl, HB.out⟩

set_option maxRecDepth 100000 in
set_option maxHeartbeats 8000000 in
theorem namesVar_any (lo hi : Nat) (w : World) (v : Value) (l : List Var) (h : Vars lo hi w v l) (hh : hi ≤ w.heap.size) (hn9 : l.length ≤ 1099511627776) (hG : ∀ x ∈ l, x.name.length ≤ 140737488351232) :
    Calls Tryd.prog 96 #[v, fv 46] w (NamesP (l.map fun x => x.name) w) := by
  obtain ⟨A, n, cap, b, off, rfl, hn, hm2, ha, hc⟩ := h
  have hE := enters7 Tryd.func46 (by kernel_rfl) (show Tryd.f46.body = some _ from rfl)
  have hmm := @run_makeMap Tryd.prog
  have HM0 := Lib.hid (World.ownsMap_made (H := Unit) w Tryd.prog 9 unitElem)
  have HB0 : Hid (Below w.heap.size w (w.alloc (.map #[] 0))) := Lib.hid ((Below.refl _ _).alloc (Nat.le_refl _) _)
  have HC := Lib.hid hc
  have HA := Lib.hid ha
  have HN := Lib.hid hn
  have HG := Lib.hid hG
  have HN9 := Lib.hid hn9
  clear hc ha hn hG hn9
  go_enter Tryd.func96, Tryd.ntmps96
  go_wp2_with fail
  go_loopw [11] (fun i wr => ∃ k : Nat, k ≤ n ∧ i = .int .i64 k ∧ Hid (wr.ownsMap Tryd.prog 9 unitElem w.heap.size k (setD ((l.map (·.name)).take k))) ∧ Hid (Below w.heap.size w wr)) (fun i _ => n - (intOf i).toNat)
  case atStart => exact ⟨0, Nat.zero_le _, rfl, HM0, HB0⟩
  case round =>
  obtain ⟨k, hk, rfl, HD, HBr⟩ := hrel
  by_cases hlt : k < n
  · obtain ⟨⟨nm, ty⟩, hx⟩ : ∃ x, l[k]? = some x := ⟨_, List.getElem?_eq_getElem (by have := HN.out; omega)⟩
    obtain ⟨rfl, _, hb1⟩ := HA.out (by omega)
    obtain ⟨cs, _, q1, hu⟩ := HC.out k _ hx
    have hb1 : b < w.heap.size := by omega
    subst hu
    obtain ⟨n0, n1⟩ := at2 (cells_later q1 HBr.out hb1)
    obtain ⟨sn, hsn⟩ : ∃ s : ByteArray, (str nm : Value) = .string s := ⟨_, rfl⟩
    have HX := Lib.hid hx
    have HKEY := Lib.hid (key_at (HG.out _ (List.mem_of_getElem? hx)))
    have QN := Lib.hid fun w' => varName_any w' [str nm, str ty] sn _ (by rw [← hsn]) rfl
    have HSN := Lib.hid hsn
    have HDX := Lib.hid (HD.out.alloc (.cells #[str nm, str ty] 40))
    have HBX := Lib.hid (HBr.out.alloc HBr.out.size (.cells #[str nm, str ty] 40))
    have hk9 : k ≤ 1099511627776 := by have := HN9.out; have := HN.out; omega
    have hgl := HD.out.lt
    clear hx q1 hsn
    simp only at n0 n1
    go_wp2_with fail
    refine (QN.out _).mono ?_
    rintro e w5 ⟨rfl, hb5⟩
    have HD5 := Lib.hid (names_below HDX.out hb5 HDX.out.lt)
    have HB5 := Lib.hid (HBX.out.trans (hb5.mono HBX.out.size))
    have HK2 := Lib.hid (show keyOf Tryd.prog 9 (.string sn) = some (kS nm) by rw [← HSN.out]; exact HKEY.out)
    clear hb5
    go_wp2_with (first | (at_mapUpdate; refine wpList_mapUpdate_own _ rfl _ _ _ 111 rfl 9 137 lawS Tryd.underlying111 _ w.heap.size k _ rfl HD5.out (by unfold maxLen; omega) _ _ _ rfl rfl HK2.out _ [] unitElem_mk ?_; intro w9 hown9 hg9; have HO9 := Lib.hid hown9; have HB9 := Lib.hid (HB5.out.grown hg9 HB5.out.size (fun j hj => by cases hj; exact Nat.le_refl _)); clear hown9 hg9) | go_in)
    go_roundw
    case rel => exact ⟨k + 1, by omega, by go_num, Lib.hid (by rw [take_nm HX.out, setD_snoc]; exact HO9.out), HB9⟩
    case measure => simp [intOf]; omega
  · have hall : (l.map (·.name)).take k = l.map (·.name) := List.take_of_length_le (by simp; have := HN.out; omega)
    rw [hall] at HD
    have hkn : k = l.length := by have := HN.out; omega
    have HE := Lib.hid (show wr.ownsMap Tryd.prog 9 unitElem w.heap.size (l.map fun x => x.name).length (setD (l.map fun x => x.name)) by rw [List.length_map, ← hkn]; exact HD.out)
    clear hkn hall
    go_wp2_with fail
    go_ret
    exact ⟨_, rfl, Nat.le_refl _, HE.out.lt, HE.out, HBr.out⟩

set_option maxRecDepth 100000 in
set_option maxHeartbeats 8000000 in
theorem unlikeVar_any (lo hi : Nat) (w : World) (v : Value) (l : List Var) (h : Vars lo hi w v l) (hh : hi ≤ w.heap.size) (hn9 : l.length ≤ 1099511627776) (hG : ∀ x ∈ l, x.name.length ≤ 140737488351232) :
    Calls Tryd.prog 87 #[v, fv 46] w fun e w' => e = .returned (.bool (unlikeT (l.map fun x => x.name))) ∧ Below w.heap.size w w' := by
  have QN := Lib.hid (namesVar_any lo hi w v l h hh hn9 hG)
  obtain ⟨A, cap, rfl⟩ := Row.form h
  clear h hG
  go_enter Tryd.func87, Tryd.ntmps87
  go_wp2_with fail
  refine QN.out.mono ?_
  rintro e w5 ⟨g, rfl, hg1, hg2, hown, hb⟩
  obtain ⟨s, hs⟩ : ∃ s, size (setD (l.map fun x => x.name)) = s := ⟨_, rfl⟩
  have hlen := fun (ty : TypeId) => names_len Tryd.underlying111 hown ty hs
  have hb9 : unlikeT (l.map fun x => x.name) = ((s : Int) == (l.length : Int)) := by
    have h1 := setD_size (l.map fun x => x.name)
    rw [hs, List.length_map] at h1
    unfold unlikeT
    by_cases e : s = l.length
    · rw [decide_eq_true (h1.1 e)]; simp [e]
    · rw [decide_eq_false (fun h => e (h1.2 h))]; symm; rw [beq_eq_false_iff_ne]; omega
  have HB := Lib.hid hb
  have H9 := Lib.hid hb9
  clear hb hown hs hb9 hg1 hg2
  go_wp2_with fail
  go_ret
  exact ⟨by rw [H9.out]; rfl, HB.out⟩

set_option maxRecDepth 100000 in
set_option maxHeartbeats 8000000 in
theorem namesExtern_any (lo hi : Nat) (w : World) (v : Value) (l : List Extern) (h : Externs lo hi w v l) (hh : hi ≤ w.heap.size) (hn9 : l.length ≤ 1099511627776) (hG : ∀ x ∈ l, x.name.length ≤ 140737488351232) :
    Calls Tryd.prog 85 #[v, fv 48] w (NamesP (l.map fun x => x.name) w) := by
  obtain ⟨A, n, cap, b, off, rfl, hn, hm2, ha, hc⟩ := h
  have hE := enters7 Tryd.func48 (by kernel_rfl) (show Tryd.f48.body = some _ from rfl)
  have hmm := @run_makeMap Tryd.prog
  have HM0 := Lib.hid (World.ownsMap_made (H := Unit) w Tryd.prog 9 unitElem)
  have HB0 : Hid (Below w.heap.size w (w.alloc (.map #[] 0))) := Lib.hid ((Below.refl _ _).alloc (Nat.le_refl _) _)
  have HC := Lib.hid hc
  have HA := Lib.hid ha
  have HN := Lib.hid hn
  have HG := Lib.hid hG
  have HN9 := Lib.hid hn9
  clear hc ha hn hG hn9
  go_enter Tryd.func85, Tryd.ntmps85
  go_wp2_with fail
  go_loopw [11] (fun i wr => ∃ k : Nat, k ≤ n ∧ i = .int .i64 k ∧ Hid (wr.ownsMap Tryd.prog 9 unitElem w.heap.size k (setD ((l.map (·.name)).take k))) ∧ Hid (Below w.heap.size w wr)) (fun i _ => n - (intOf i).toNat)
  case atStart => exact ⟨0, Nat.zero_le _, rfl, HM0, HB0⟩
  case round =>
  obtain ⟨k, hk, rfl, HD, HBr⟩ := hrel
  by_cases hlt : k < n
  · obtain ⟨⟨nm, ne⟩, hx⟩ : ∃ x, l[k]? = some x := ⟨_, List.getElem?_eq_getElem (by have := HN.out; omega)⟩
    obtain ⟨rfl, _, hb1⟩ := HA.out (by omega)
    obtain ⟨cs, _, q1, hu⟩ := HC.out k _ hx
    have hb1 : b < w.heap.size := by omega
    subst hu
    obtain ⟨n0, n1⟩ := at2 (cells_later q1 HBr.out hb1)
    obtain ⟨sn, hsn⟩ : ∃ s : ByteArray, (str nm : Value) = .string s := ⟨_, rfl⟩
    have HX := Lib.hid hx
    have HKEY := Lib.hid (key_at (HG.out _ (List.mem_of_getElem? hx)))
    have QN := Lib.hid fun w' => externName_any w' [str nm, i64 ne] sn _ (by rw [← hsn]) rfl
    have HSN := Lib.hid hsn
    have HDX := Lib.hid (HD.out.alloc (.cells #[str nm, i64 ne] 47))
    have HBX := Lib.hid (HBr.out.alloc HBr.out.size (.cells #[str nm, i64 ne] 47))
    have hk9 : k ≤ 1099511627776 := by have := HN9.out; have := HN.out; omega
    have hgl := HD.out.lt
    clear hx q1 hsn
    simp only at n0 n1
    go_wp2_with fail
    refine (QN.out _).mono ?_
    rintro e w5 ⟨rfl, hb5⟩
    have HD5 := Lib.hid (names_below HDX.out hb5 HDX.out.lt)
    have HB5 := Lib.hid (HBX.out.trans (hb5.mono HBX.out.size))
    have HK2 := Lib.hid (show keyOf Tryd.prog 9 (.string sn) = some (kS nm) by rw [← HSN.out]; exact HKEY.out)
    clear hb5
    go_wp2_with (first | (at_mapUpdate; refine wpList_mapUpdate_own _ rfl _ _ _ 111 rfl 9 137 lawS Tryd.underlying111 _ w.heap.size k _ rfl HD5.out (by unfold maxLen; omega) _ _ _ rfl rfl HK2.out _ [] unitElem_mk ?_; intro w9 hown9 hg9; have HO9 := Lib.hid hown9; have HB9 := Lib.hid (HB5.out.grown hg9 HB5.out.size (fun j hj => by cases hj; exact Nat.le_refl _)); clear hown9 hg9) | go_in)
    go_roundw
    case rel => exact ⟨k + 1, by omega, by go_num, Lib.hid (by rw [take_nm HX.out, setD_snoc]; exact HO9.out), HB9⟩
    case measure => simp [intOf]; omega
  · have hall : (l.map (·.name)).take k = l.map (·.name) := List.take_of_length_le (by simp; have := HN.out; omega)
    rw [hall] at HD
    have hkn : k = l.length := by have := HN.out; omega
    have HE := Lib.hid (show wr.ownsMap Tryd.prog 9 unitElem w.heap.size (l.map fun x => x.name).length (setD (l.map fun x => x.name)) by rw [List.length_map, ← hkn]; exact HD.out)
    clear hkn hall
    go_wp2_with fail
    go_ret
    exact ⟨_, rfl, Nat.le_refl _, HE.out.lt, HE.out, HBr.out⟩

set_option maxRecDepth 100000 in
set_option maxHeartbeats 8000000 in
theorem unlikeExtern_any (lo hi : Nat) (w : World) (v : Value) (l : List Extern) (h : Externs lo hi w v l) (hh : hi ≤ w.heap.size) (hn9 : l.length ≤ 1099511627776) (hG : ∀ x ∈ l, x.name.length ≤ 140737488351232) :
    Calls Tryd.prog 63 #[v, fv 48] w fun e w' => e = .returned (.bool (unlikeT (l.map fun x => x.name))) ∧ Below w.heap.size w w' := by
  have QN := Lib.hid (namesExtern_any lo hi w v l h hh hn9 hG)
  obtain ⟨A, cap, rfl⟩ := Row.form h
  clear h hG
  go_enter Tryd.func63, Tryd.ntmps63
  go_wp2_with fail
  refine QN.out.mono ?_
  rintro e w5 ⟨g, rfl, hg1, hg2, hown, hb⟩
  obtain ⟨s, hs⟩ : ∃ s, size (setD (l.map fun x => x.name)) = s := ⟨_, rfl⟩
  have hlen := fun (ty : TypeId) => names_len Tryd.underlying111 hown ty hs
  have hb9 : unlikeT (l.map fun x => x.name) = ((s : Int) == (l.length : Int)) := by
    have h1 := setD_size (l.map fun x => x.name)
    rw [hs, List.length_map] at h1
    unfold unlikeT
    by_cases e : s = l.length
    · rw [decide_eq_true (h1.1 e)]; simp [e]
    · rw [decide_eq_false (fun h => e (h1.2 h))]; symm; rw [beq_eq_false_iff_ne]; omega
  have HB := Lib.hid hb
  have H9 := Lib.hid hb9
  clear hb hown hs hb9 hg1 hg2
  go_wp2_with fail
  go_ret
  exact ⟨by rw [H9.out]; rfl, HB.out⟩

set_option maxRecDepth 100000 in
set_option maxHeartbeats 8000000 in
theorem namesFunc_any (lo hi : Nat) (w : World) (v : Value) (l : List Api.Func) (h : Funcs lo hi w v l) (hh : hi ≤ w.heap.size) (hn9 : l.length ≤ 1099511627776) (hG : ∀ x ∈ l, x.name.length ≤ 140737488351232) :
    Calls Tryd.prog 86 #[v, fv 43] w (NamesP (l.map fun x => x.name) w) := by
  obtain ⟨A, n, cap, b, off, rfl, hn, hm2, ha, hc⟩ := h
  have hE := enters7 Tryd.func43 (by kernel_rfl) (show Tryd.f43.body = some _ from rfl)
  have hmm := @run_makeMap Tryd.prog
  have HM0 := Lib.hid (World.ownsMap_made (H := Unit) w Tryd.prog 9 unitElem)
  have HB0 : Hid (Below w.heap.size w (w.alloc (.map #[] 0))) := Lib.hid ((Below.refl _ _).alloc (Nat.le_refl _) _)
  have HC := Lib.hid hc
  have HA := Lib.hid ha
  have HN := Lib.hid hn
  have HG := Lib.hid hG
  have HN9 := Lib.hid hn9
  clear hc ha hn hG hn9
  go_enter Tryd.func86, Tryd.ntmps86
  go_wp2_with fail
  go_loopw [11] (fun i wr => ∃ k : Nat, k ≤ n ∧ i = .int .i64 k ∧ Hid (wr.ownsMap Tryd.prog 9 unitElem w.heap.size k (setD ((l.map (·.name)).take k))) ∧ Hid (Below w.heap.size w wr)) (fun i _ => n - (intOf i).toNat)
  case atStart => exact ⟨0, Nat.zero_le _, rfl, HM0, HB0⟩
  case round =>
  obtain ⟨k, hk, rfl, HD, HBr⟩ := hrel
  by_cases hlt : k < n
  · obtain ⟨⟨nm, rs, ps, vs, bl⟩, hx⟩ : ∃ x, l[k]? = some x := ⟨_, List.getElem?_eq_getElem (by have := HN.out; omega)⟩
    obtain ⟨rfl, _, hb1⟩ := HA.out (by omega)
    obtain ⟨cs, _, q1, hu⟩ := HC.out k _ hx
    have hb1 : b < w.heap.size := by omega
    obtain ⟨y1, y2, y3, rfl, g1, g2, g3⟩ := hu; obtain ⟨B1, k1, rfl⟩ := g1.form; obtain ⟨B2, k2, rfl⟩ := g2.form; obtain ⟨B3, k3, rfl⟩ := g3.form
    obtain ⟨n0, n1, n2, n3, n4⟩ := at5 (cells_later q1 HBr.out hb1)
    obtain ⟨sn, hsn⟩ : ∃ s : ByteArray, (str nm : Value) = .string s := ⟨_, rfl⟩
    have HX := Lib.hid hx
    have HKEY := Lib.hid (key_at (HG.out _ (List.mem_of_getElem? hx)))
    have QN := Lib.hid fun w' => funcName_any w' [str nm, str rs, .slice B1 ps.length k1, .slice B2 vs.length k2, .slice B3 bl.length k3] sn _ (by rw [← hsn]) rfl
    have HSN := Lib.hid hsn
    have HDX := Lib.hid (HD.out.alloc (.cells #[str nm, str rs, .slice B1 ps.length k1, .slice B2 vs.length k2, .slice B3 bl.length k3] 30))
    have HBX := Lib.hid (HBr.out.alloc HBr.out.size (.cells #[str nm, str rs, .slice B1 ps.length k1, .slice B2 vs.length k2, .slice B3 bl.length k3] 30))
    have hk9 : k ≤ 1099511627776 := by have := HN9.out; have := HN.out; omega
    have hgl := HD.out.lt
    clear hx q1 hsn
    simp only at n0 n1 n2 n3 n4
    go_wp2_with fail
    refine (QN.out _).mono ?_
    rintro e w5 ⟨rfl, hb5⟩
    have HD5 := Lib.hid (names_below HDX.out hb5 HDX.out.lt)
    have HB5 := Lib.hid (HBX.out.trans (hb5.mono HBX.out.size))
    have HK2 := Lib.hid (show keyOf Tryd.prog 9 (.string sn) = some (kS nm) by rw [← HSN.out]; exact HKEY.out)
    clear hb5
    go_wp2_with (first | (at_mapUpdate; refine wpList_mapUpdate_own _ rfl _ _ _ 111 rfl 9 137 lawS Tryd.underlying111 _ w.heap.size k _ rfl HD5.out (by unfold maxLen; omega) _ _ _ rfl rfl HK2.out _ [] unitElem_mk ?_; intro w9 hown9 hg9; have HO9 := Lib.hid hown9; have HB9 := Lib.hid (HB5.out.grown hg9 HB5.out.size (fun j hj => by cases hj; exact Nat.le_refl _)); clear hown9 hg9) | go_in)
    go_roundw
    case rel => exact ⟨k + 1, by omega, by go_num, Lib.hid (by rw [take_nm HX.out, setD_snoc]; exact HO9.out), HB9⟩
    case measure => simp [intOf]; omega
  · have hall : (l.map (·.name)).take k = l.map (·.name) := List.take_of_length_le (by simp; have := HN.out; omega)
    rw [hall] at HD
    have hkn : k = l.length := by have := HN.out; omega
    have HE := Lib.hid (show wr.ownsMap Tryd.prog 9 unitElem w.heap.size (l.map fun x => x.name).length (setD (l.map fun x => x.name)) by rw [List.length_map, ← hkn]; exact HD.out)
    clear hkn hall
    go_wp2_with fail
    go_ret
    exact ⟨_, rfl, Nat.le_refl _, HE.out.lt, HE.out, HBr.out⟩

set_option maxRecDepth 100000 in
set_option maxHeartbeats 8000000 in
theorem unlikeFunc_any (lo hi : Nat) (w : World) (v : Value) (l : List Api.Func) (h : Funcs lo hi w v l) (hh : hi ≤ w.heap.size) (hn9 : l.length ≤ 1099511627776) (hG : ∀ x ∈ l, x.name.length ≤ 140737488351232) :
    Calls Tryd.prog 64 #[v, fv 43] w fun e w' => e = .returned (.bool (unlikeT (l.map fun x => x.name))) ∧ Below w.heap.size w w' := by
  have QN := Lib.hid (namesFunc_any lo hi w v l h hh hn9 hG)
  obtain ⟨A, cap, rfl⟩ := Row.form h
  clear h hG
  go_enter Tryd.func64, Tryd.ntmps64
  go_wp2_with fail
  refine QN.out.mono ?_
  rintro e w5 ⟨g, rfl, hg1, hg2, hown, hb⟩
  obtain ⟨s, hs⟩ : ∃ s, size (setD (l.map fun x => x.name)) = s := ⟨_, rfl⟩
  have hlen := fun (ty : TypeId) => names_len Tryd.underlying111 hown ty hs
  have hb9 : unlikeT (l.map fun x => x.name) = ((s : Int) == (l.length : Int)) := by
    have h1 := setD_size (l.map fun x => x.name)
    rw [hs, List.length_map] at h1
    unfold unlikeT
    by_cases e : s = l.length
    · rw [decide_eq_true (h1.1 e)]; simp [e]
    · rw [decide_eq_false (fun h => e (h1.2 h))]; symm; rw [beq_eq_false_iff_ne]; omega
  have HB := Lib.hid hb
  have H9 := Lib.hid hb9
  clear hb hown hs hb9 hg1 hg2
  go_wp2_with fail
  go_ret
  exact ⟨by rw [H9.out]; rfl, HB.out⟩

set_option maxRecDepth 100000 in
set_option maxHeartbeats 8000000 in
theorem isType_any (w : World) (g m : Nat) (cs : List Wd) (hM : w.ownsMap Tryd.prog 9 unitElem g m (setD cs)) (t : Wd) (ht : t.length ≤ 140737488351232) :
    Calls Tryd.prog 67 #[.map (some g), str t] w fun e w' => e = .returned (.bool (isT cs t)) ∧ Below w.heap.size w w' := by
  have hlk := names_has (t := 111) lawS Tryd.underlying111 (zeroU _) hM (key_at ht) (setD_has cs t)
  obtain ⟨st, hst⟩ : ∃ s : ByteArray, s = ⟨t.toArray⟩ := ⟨_, rfl⟩
  have QN := Lib.hid fun w => (isNumber_any w st (numT t) (by rw [hst, str_list]))
  rw [show (str t : Value) = .string st by rw [hst]] at hlk ⊢
  have HST := Lib.hid hst
  clear hM hst
  by_cases hin : t ∈ cs
  · rw [decide_eq_true hin] at hlk
    have HE := Lib.hid (show isT cs t = true by unfold isT; rw [List.contains_iff_mem.2 hin]; rfl)
    clear hin
    go_enter Tryd.func67, Tryd.ntmps67
    go_wp2_with fail
    go_ret
    exact ⟨by rw [HE.out]; rfl, (Below.refl _ _).alloc (Nat.le_refl _) _⟩
  · rw [decide_eq_false hin] at hlk
    have HE := Lib.hid (show isT cs t = numT t by unfold isT; rw [show cs.contains t = false by rw [← Bool.not_eq_true, List.contains_iff_mem]; exact hin]; rfl)
    clear hin
    go_enter Tryd.func67, Tryd.ntmps67
    go_wp2_with fail
    refine (QN.out _).mono ?_
    rintro e w6 ⟨rfl, hw⟩
    obtain rfl := hw
    go_wp2_with fail
    go_ret
    exact ⟨by rw [HE.out]; rfl, (Below.refl _ _).alloc (Nat.le_refl _) _⟩
set_option maxRecDepth 100000 in
set_option maxHeartbeats 8000000 in
theorem declare_any (lo hi : Nat) (w : World) (g m : Nat) (cs : List Wd) (hM : w.ownsMap Tryd.prog 9 unitElem g m (setD cs)) (v : Value) (l : List Var) (h : Vars lo hi w v l) (hh : hi ≤ w.heap.size) (hn9 : l.length ≤ 1099511627776) (hG : ∀ x ∈ l, x.name.length ≤ 140737488351232 ∧ x.type.length ≤ 140737488351232) :
    Calls Tryd.prog 66 #[.map (some g), v] w fun e w' => e = .returned (.bool (declT cs l)) ∧ Below w.heap.size w w' := by
  have h0 := h
  obtain ⟨A, n, cap, b, off, rfl, hn, hm2, ha, hc⟩ := h
  have HC := Lib.hid hc
  have HA := Lib.hid ha
  have HN := Lib.hid hn
  have HG := Lib.hid hG
  have HN9 := Lib.hid hn9
  have HV := Lib.hid h0
  have HM := Lib.hid hM
  have HGL := Lib.hid hM.lt
  clear hc ha hn hG hn9 h0 hM
  go_enter Tryd.func66, Tryd.ntmps66
  go_wp2_with fail
  go_loopw [9] (fun i wr => ∃ k : Nat, k ≤ n ∧ i = .int .i64 k ∧ Hid ((l.take k).all (fun v => isT cs v.type) = true) ∧ Hid (Below w.heap.size w wr)) (fun i _ => n - (intOf i).toNat)
  case atStart => exact ⟨0, Nat.zero_le _, rfl, Lib.hid (by simp), Lib.hid (Below.refl _ _)⟩
  case round =>
  obtain ⟨k, hk, rfl, HK, HBr⟩ := hrel
  by_cases hlt : k < n
  · obtain ⟨⟨nm, ty⟩, hx⟩ : ∃ x, l[k]? = some x := ⟨_, List.getElem?_eq_getElem (by have := HN.out; omega)⟩
    obtain ⟨rfl, _, hb1⟩ := HA.out (by omega)
    obtain ⟨cs2, _, q1, hu⟩ := HC.out k _ hx
    have hb1 : b < w.heap.size := by omega
    subst hu
    obtain ⟨n0, n1⟩ := at2 (cells_later q1 HBr.out hb1)
    have hgx := (HG.out _ (List.mem_of_getElem? hx)).2
    have HBX := Lib.hid (HBr.out.alloc HBr.out.size (.cells #[str nm, str ty] 40))
    have QT := Lib.hid (isType_any (wr.alloc (.cells #[str nm, str ty] 40)) g m cs (names_below HM.out HBX.out HGL.out) ty hgx)
    have hx2 : (l.take (k + 1)).all (fun v => isT cs v.type) = ((l.take k).all (fun v => isT cs v.type) && isT cs ty) := by
      obtain ⟨h1, h2⟩ := List.getElem?_eq_some_iff.1 hx
      rw [List.take_succ_eq_append_getElem h1, h2, List.all_append]
      simp
    have hbad : isT cs ty = false → declT cs l = false := fun h => by
      unfold declT
      rw [Bool.and_eq_false_iff]
      left
      rw [← Bool.not_eq_true, List.all_eq_true]
      intro hall
      have := hall _ (List.mem_of_getElem? hx)
      simp only [h] at this
      cases this
    rw [HK.out, Bool.true_and] at hx2
    obtain ⟨tb, htb⟩ : ∃ tb, isT cs ty = tb := ⟨_, rfl⟩
    rw [htb] at QT hx2 hbad
    have HX2 := Lib.hid hx2
    have HBAD := Lib.hid hbad
    clear hx q1 hx2 hbad hgx htb
    simp only at n0 n1
    go_wp2_with fail
    refine QT.out.mono ?_
    rintro e w5 ⟨rfl, hb5⟩
    have HB5 := Lib.hid (HBX.out.trans (hb5.mono HBX.out.size))
    clear hb5
    cases tb with
    | false =>
      go_wp2_with fail
      go_ret
      exact ⟨by rw [HBAD.out (by first | rfl | trivial)]; rfl, HB5.out⟩
    | true =>
      go_wp2_with fail
      go_roundw
      case rel => exact ⟨k + 1, by omega, by go_num, HX2, HB5⟩
      case measure => simp [intOf]; omega
  · have hall : l.take k = l := List.take_of_length_le (by have := HN.out; omega)
    have hk9 := HK.out
    rw [hall] at hk9
    have HE := Lib.hid (show declT cs l = unlikeT (l.map fun v => v.name) by unfold declT; rw [hk9]; rfl)
    have QU := Lib.hid (unlikeVar_any lo hi wr _ l (Vars.move (Still.of_below (HBr.out.mono hh)) HV.out) (Nat.le_trans hh HBr.out.size) HN9.out (fun x hx => (HG.out x hx).1))
    clear hk9 hall
    go_wp2_with fail
    refine QU.out.mono ?_
    rintro e w6 ⟨rfl, hb⟩
    have HB6 := Lib.hid (HBr.out.trans (hb.mono HBr.out.size))
    clear hb
    go_wp2_with fail
    go_ret
    exact ⟨by rw [HE.out]; rfl, HB6.out⟩

end Go.Proofs.YtikfncgdjnljiaaDoor.Ty7
