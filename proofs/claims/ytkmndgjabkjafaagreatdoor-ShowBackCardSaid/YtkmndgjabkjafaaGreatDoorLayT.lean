/-
  Package show: the closure that lays a line.
  Package show: lines of variables, laid.
-/
import Derived.Test.YtkmndgjabkjafaaGreatDoorWords10
import Derived.Test.YtkmndgjabkjafaaGreatDoorCallsJ
import Derived.Test.YtkmndgjabkjafaaGreatDoorBackT
namespace Go.Proofs.YtkmndgjabkjafaaGreatDoor.Sh6
open Go.RowKit Api Syn WordM Mem Rd5
open LinesM hiding Wd

/-- What the closures hold: the lines that are laid, and how many bytes are left. -/
def LayS (base lb fb : Nat) (w : World) (ls : List (List Wd)) (left : Int) : Prop :=
  base ≤ lb ∧ base ≤ fb ∧ Own w fb 3 [i64 left] ∧ ∃ v xs, Own w lb 60 [v] ∧ OwnLins 102 9 base w.heap.size w v xs ∧ wordsOf xs = ls
/-- Boxes stay. -/
def KeepO (w w' : World) : Prop := ∀ k t cs, Own w k t cs → t ≠ 102 → t ≠ 60 → t ≠ 3 → Own w' k t cs
theorem KeepO.refl (w : World) : KeepO w w := fun _ _ _ h _ _ _ => h
theorem KeepO.trans {a b c : World} (h : KeepO a b) (g : KeepO b c) : KeepO a c := fun k t cs o h1 h2 h3 => g k t cs (h k t cs o h1 h2 h3) h1 h2 h3
theorem KeepO.of_below {w w' : World} (h : Below w.heap.size w w') : KeepO w w' := fun _ _ _ o _ _ _ => o.below h o.lt
theorem KeepO.of_grown {w w' : World} {b : Nat} {t : TypeId} {cs : List Value} (hb : Own w b t cs) (ht : t = 102 ∨ t = 60 ∨ t = 3) (h : w.grownBy w' (some b)) : KeepO w w' := by
  intro k t' cs' o h1 h2 h3
  refine (h.block k o.lt ?_).trans o
  intro he
  simp only [Option.some.injEq] at he
  subst he
  have h4 : some (Obj.cells cs.toArray t (0, 0)) = some (Obj.cells cs'.toArray t' (0, 0)) := hb.symm.trans o
  simp only [Option.some.injEq, Obj.cells.injEq] at h4
  rcases ht with rfl | rfl | rfl
  · exact h1 h4.2.1.symm
  · exact h2 h4.2.1.symm
  · exact h3 h4.2.1.symm
theorem grown_set {w wr : World} {b : Nat} (h : w.grownBy wr (some b)) (u : Value) : w.grownBy (wr.setCell ⟨b, 0, none⟩ u) (some b) := by
  refine ⟨h.os, h.tape, h.output, by simpa using h.size, fun k hk hne => ?_⟩
  have e : k ≠ b := fun e => hne (by rw [e])
  rw [← h.block k hk hne]
  simp [World.setCell, Array.getElem?_modify, Ne.symm e]
theorem own_grown {w wr : World} {b g : Nat} {t : TypeId} {cs : List Value} (o : Own w g t cs) (h : w.grownBy wr (some b)) (hne : g ≠ b) : Own wr g t cs :=
  (h.block g o.lt (fun e => hne (by simpa using e))).trans o
theorem own_apart {w : World} {b g : Nat} {t s : TypeId} {cs ds : List Value} (o : Own w g t cs) (p : Own w b s ds) (h : t ≠ s) : g ≠ b := by
  rintro rfl
  have h4 : some (Obj.cells cs.toArray t (0, 0)) = some (Obj.cells ds.toArray s (0, 0)) := o.symm.trans p
  simp only [Option.some.injEq, Obj.cells.injEq] at h4
  exact h h4.2.1
theorem row_apart {w : World} {b base size n : Nat} {t e : TypeId} {ds xs : List Value} {v : Value} (o : w.ownsRow base e size v n xs) (p : Own w b t ds) (h : e ≠ t) : v.ownBlock = none ∨ v.ownBlock ≠ some b := by
  rcases o.2 with ⟨rfl, _⟩ | ⟨g, cap, cur, rfl, hb, h2, _⟩
  · exact .inl rfl
  · right
    intro he
    simp only [Value.ownBlock, Option.some.injEq] at he
    subst he
    have h4 : some (Obj.cells cur e (0, 0)) = some (Obj.cells ds.toArray t (0, 0)) := h2.symm.trans p
    simp only [Option.some.injEq, Obj.cells.injEq] at h4
    exact h h4.2.1
theorem lins_grown {E Es : TypeId} {base hi b : Nat} {w w' : World} {v : Value} {xs : List ML} {t : TypeId} {ds : List Value} (h : OwnLins E Es base hi w v xs) (p : Own w b t ds) (h1 : E ≠ t) (h2 : Es ≠ t) (hg : w.grownBy w' (some b)) : OwnLins E Es base hi w' v xs :=
  ⟨h.1.kept hg (row_apart h.1 p h1), fun x hx => ⟨(h.2 x hx).1.kept hg (row_apart (h.2 x hx).1 p h2), (h.2 x hx).2⟩⟩
theorem wlen_take (k : Nat) (ws : List Wd) : wlen (ws.take k) ≤ wlen ws := by
  have h : wlen ws = wlen (ws.take k) + wlen (ws.drop k) := by
    unfold wlen
    rw [← List.sum_append, ← List.map_append, List.take_append_drop]
  omega
theorem wlen_next {k : Nat} {ws : List Wd} {x : Wd} (h : ws[k]? = some x) : wlen (ws.take (k + 1)) = wlen (ws.take k) + (x.length + 1) := by
  rw [LinesM.take_next h]
  unfold wlen
  simp
theorem own_row {w w' : World} {base b n size : Nat} {t e : TypeId} {cs : List Value} {v : Value} {xs : List Value} (hO : Own w b t cs) (ht : e ≠ t) (own : w.ownsRow base e size v n xs) (hg : w.grownBy w' v.ownBlock) : Own w' b t cs := by
  refine (hg.block b hO.lt ?_).trans hO
  rcases row_apart own hO ht with h | h
  · rw [h]; simp
  · exact fun he => h he.symm
theorem KeepO.of_row {w w' : World} {base n size : Nat} {v : Value} {xs : List Value} (own : w.ownsRow base 102 size v n xs) (hg : w.grownBy w' v.ownBlock) : KeepO w w' :=
  fun _ _ _ o h1 _ _ => own_row o (Ne.symm h1) own hg
theorem lay_end {w wr w5 : World} {base lb fb : Nat} {ls : List (List Wd)} {l1 l2 : Int} {u v v' : Value} {ws : List Wd} {xs : List ML} (hlb : base ≤ lb) (hfb : base ≤ fb) (of0 : Own w fb 3 [i64 l1]) (hL : Own w lb 60 [u]) (ol : OwnLins 102 9 base w.heap.size w u xs) (hwo : wordsOf xs = ls) (hv : w.ownsRow base 9 1 v ws.length (LinesM.strs ws))
    (of1 : Own wr fb 3 [i64 l2]) (hg : w.grownBy wr (some fb)) (hown : w5.ownsRow base 102 2 v' (xs.length + 1) (cells xs ++ [.int .i64 0, v])) (hg5 : wr.grownBy w5 u.ownBlock) :
    LayS base lb fb (w5.setCell ⟨lb, 0, none⟩ v') (ls ++ [ws]) l2 ∧ Below base w (w5.setCell ⟨lb, 0, none⟩ v') ∧ KeepO w (w5.setCell ⟨lb, 0, none⟩ v') := by
  have olr : OwnLins 102 9 base w.heap.size wr u xs := lins_grown ol of0 (by decide) (by decide) hg
  have hvr : wr.ownsRow base 9 1 v ws.length (LinesM.strs ws) := hv.kept hg (row_apart hv of0 (by decide))
  have hLr : Own wr lb 60 [u] := own_grown hL hg (own_apart hL of0 (by decide))
  have hL5 : Own w5 lb 60 [u] := own_row hLr (by decide) olr.1 hg5
  have of5 : Own w5 fb 3 [i64 l2] := own_row of1 (by decide) olr.1 hg5
  have ol5 : OwnLins 102 9 base w5.heap.size w5 v' (xs ++ [(0, v, ws)]) :=
    olr.push (by decide) hvr (Nat.le_trans hg.size hg5.size) hg5.size hg5 hown rfl
  have hg6 : w5.grownBy (w5.setCell ⟨lb, 0, none⟩ v') (some lb) := grown_set ⟨rfl, rfl, rfl, Nat.le_refl _, fun _ _ _ => rfl⟩ v'
  have hL6 : Own (w5.setCell ⟨lb, 0, none⟩ v') lb 60 [v'] := hL5.store 0 v'
  have hsz : base ≤ w.heap.size := Nat.le_trans hfb (Nat.le_of_lt of0.lt)
  refine ⟨⟨hlb, hfb, own_grown of5 hg6 (own_apart of5 hL5 (by decide)), v', _, hL6, (lins_grown ol5 hL5 (by decide) (by decide) hg6).up hg6.size, ?_⟩, ?_, ?_⟩
  · rw [← hwo]
    simp [wordsOf]
  · have b1 : Below base w wr := (Below.refl base w).grown hg hsz (fun k hk => by cases hk; exact hfb)
    have b2 : Below base w w5 := b1.grown hg5 (Nat.le_trans hsz hg.size) (fun k hk => (olr.1.lt k hk).1)
    exact b2.grown hg6 (Nat.le_trans hsz (Nat.le_trans hg.size hg5.size)) (fun k hk => by cases hk; exact hlb)
  · exact ((KeepO.of_grown of0 (.inr (.inr rfl)) hg).trans (KeepO.of_row olr.1 hg5)).trans (KeepO.of_grown hL5 (.inr (.inl rfl)) hg6)
set_option maxRecDepth 100000 in
set_option maxHeartbeats 8000000 in
theorem lay_any (w : World) (base lb fb : Nat) (ls : List (List Wd)) (left : Int) (v : Value) (ws : List Wd) (hS : LayS base lb fb w ls left) (hv : w.ownsRow base 9 1 v ws.length (LinesM.strs ws)) (hl : ls.length ≤ 1099511627776) (hw : ws.length ≤ 1099511627776) (h1 : -2305843009213693952 ≤ left - (wlen ws : Nat)) (h2 : left ≤ 4194304) :
    Calls Tryz.prog 50 #[v, .pointer (some ⟨fb, 0, none⟩), .pointer (some ⟨lb, 0, none⟩)] w fun e w' => e = .returned (.tuple #[]) ∧ LayS base lb fb w' (ls ++ [ws]) (left - (wlen ws : Nat)) ∧ Below base w w' ∧ KeepO w w' := by
  obtain ⟨hlb, hfb, of0, u, xs, hL, ol, hwo⟩ := hS
  obtain ⟨A, cap, rfl⟩ := own_form hv
  obtain ⟨A', n', cap', b, off, e, hn, hm, ha, hc⟩ := Strs.of_own hv (Nat.le_refl _)
  simp only [Value.slice.injEq] at e
  obtain ⟨rfl, rfl, rfl⟩ := e
  have OF := Lib.hid of0
  have OL := Lib.hid ol
  have HL := Lib.hid hL
  have HW := Lib.hid hwo
  have HV := Lib.hid hv
  have HA := Lib.hid ha
  have HC := Lib.hid hc
  clear of0 ol hL hwo hv hm ha hc hn
  go_enter Tryz.func50, Tryz.ntmps50
  go_wp2
  go_loopw [8] (fun i wr => ∃ k : Nat, k ≤ ws.length ∧ i = .int .i64 k ∧ Hid (Own wr fb 3 [i64 (left - (wlen (ws.take k) : Nat))]) ∧ Hid (w.grownBy wr (some fb))) (fun i _ => ws.length - (intOf i).toNat)
  case atStart => exact ⟨0, Nat.zero_le _, rfl, Lib.hid (by simpa [wlen] using OF.out), Lib.hid ⟨rfl, rfl, rfl, Nat.le_refl _, fun _ _ _ => rfl⟩⟩
  case round =>
  obtain ⟨k, hk, rfl, HF, HG⟩ := hrel
  by_cases hlt : k < ws.length
  · obtain ⟨x, hx⟩ : ∃ x, ws[k]? = some x := ⟨_, List.getElem?_eq_getElem hlt⟩
    obtain ⟨rfl, hb1, hb2⟩ := HA.out (by omega)
    have q1 := HG.out.cell (HC.out k x hx) (by
      rcases row_apart HV.out OF.out (by decide) with h | h
      · simp [Value.ownBlock] at h
      · simpa [Value.ownBlock] using h)
    have hn := wlen_next hx
    have hle : wlen (ws.take (k + 1)) ≤ wlen ws := wlen_take _ _
    obtain ⟨y, hy⟩ : ∃ y : Nat, wlen (ws.take k) = y := ⟨_, rfl⟩
    obtain ⟨ly, hly⟩ : ∃ y : Nat, x.length = y := ⟨_, rfl⟩
    obtain ⟨z, hz⟩ : ∃ y : Nat, wlen ws = y := ⟨_, rfl⟩
    rw [hn, hy, hly, hz] at hle
    have hq2 := HF.out.cell 0
    have hq3 := HF.out.thaw 0
    simp only [List.getElem?_cons_zero] at hq2
    rw [hy] at hq2
    have hst := HF.out.store 0 (i64 (left - (wlen (ws.take (k + 1)) : Nat)))
    have HST := Lib.hid hst
    clear hst
    go_wp2
    go_roundw
    case rel =>
      refine ⟨k + 1, by omega, by go_num, Lib.hid ?_, Lib.hid (grown_set HG.out _)⟩
      have h3 := HST.out
      rw [hn, hy, hly] at h3
      rw [hn, hy, hly]
      have e : left - (y : Int) - ((ly : Int) + 1) = left - ((y + (ly + 1) : Nat) : Int) := by omega
      rw [e]
      exact h3
    case measure => simp [intOf]; omega
  · have hkn : k = ws.length := by omega
    subst hkn
    have HF2 : Hid (Own wr fb 3 [i64 (left - (wlen ws : Nat))]) := Lib.hid (by have := HF.out; rwa [List.take_length] at this)
    have hgr := HG.out
    have olr : OwnLins 102 9 base w.heap.size wr u xs := lins_grown OL.out OF.out (by decide) (by decide) hgr
    have hvr : wr.ownsRow base 9 1 (.slice A ws.length cap) ws.length (LinesM.strs ws) := HV.out.kept hgr (row_apart HV.out OF.out (by decide))
    have hLr : Own wr lb 60 [u] := own_grown HL.out hgr (own_apart HL.out OF.out (by decide))
    have hbs : base ≤ wr.heap.size := Nat.le_trans hlb (Nat.le_of_lt hLr.lt)
    have hxl : xs.length ≤ 1099511627776 := by have := HW.out; rw [← this] at hl; simp [wordsOf] at hl; exact hl
    have OLR := Lib.hid olr
    have HVR := Lib.hid hvr
    have HLR := Lib.hid hLr
    have HBS := Lib.hid hbs
    have HXL := Lib.hid hxl
    have q1 := hLr.cell 0
    have hlbs : lb < wr.heap.size := hLr.lt
    simp only [List.getElem?_cons_zero] at q1
    clear olr hvr hLr hbs hxl hgr hlt HC HA
    obtain ⟨i0, hi, hz0, hz1, hz2⟩ := info_parts l_info
    have Hi := Lib.hid hi
    have Hz0 := Lib.hid hz0
    have Hz1 := Lib.hid hz1
    have Hz2 := Lib.hid hz2
    clear hi hz0 hz1 hz2
    go_wp2_with (at_builtin; refine LinesM.wpList_push_at rfl _ _ 60 rfl base 102 i0 (.agg #[.int .i64 0, .slice none 0 0]) 2 32 Tryz.underlying60 Hi.out Hz0.out Hz1.out Hz2.out rfl (by decide) _ xs.length (cells xs) rfl OLR.out.1 [.int .i64 0, .slice A ws.length cap] wr.heap.size rfl rfl rfl (two_cells 0 HVR.out) (by have := HXL.out; unfold maxLen; omega) (by have := HXL.out; omega) HBS.out ?_; intro v' w5 hown hg5; obtain ⟨A5, c5, rfl⟩ := own_form hown; have HN5 := Lib.hid hown; have HG5 := Lib.hid hg5; have r0 := (own_row HLR.out (by decide) OLR.out.1 hg5).cell 0; have r1 := (own_row HLR.out (by decide) OLR.out.1 hg5).thaw 0; simp only [List.getElem?_cons_zero] at r0; clear hown hg5)
    go_end0
    exact ⟨rfl, lay_end hlb hfb OF.out HL.out OL.out HW.out HV.out HF2.out HG.out HN5.out HG5.out⟩
end Go.Proofs.YtkmndgjabkjafaaGreatDoor.Sh6

namespace Go.Proofs.YtkmndgjabkjafaaGreatDoor.Sh6
open Go.RowKit Api Syn WordM Mem Rd5
open LinesM hiding Wd

theorem lays_below {base lb fb : Nat} {w w' : World} {ls : List (List Wd)} {left : Int} (h : LayS base lb fb w ls left) (hb : Below w.heap.size w w') : LayS base lb fb w' ls left := by
  obtain ⟨h1, h2, h3, v, xs, h4, h5, h6⟩ := h
  exact ⟨h1, h2, h3.below hb h3.lt, v, xs, h4.below hb h4.lt, (OwnLins.below h5 hb).up hb.size, h6⟩
/-- The closure that lays a line, as a value. -/
abbrev layV (fb lb : Nat) : Value := .func (.func 50) #[] #[.pointer (some ⟨fb, 0, none⟩), .pointer (some ⟨lb, 0, none⟩)]
abbrev fullV (fb : Nat) : Value := .func (.func 51) #[] #[.pointer (some ⟨fb, 0, none⟩)]
/-- Behind it the lines T are laid. -/
def LaidP (base lb fb : Nat) (w : World) (ls : List (List Wd)) (left : Int) (T : List (List Wd)) (e : Ending) (w' : World) : Prop :=
  e = .returned (.tuple #[]) ∧ LayS base lb fb w' (ls ++ T) (left - (wls T : Nat)) ∧ Below base w w' ∧ KeepO w w'
theorem full_any (w : World) (fb : Nat) (left : Int) (h : Own w fb 3 [i64 left]) : Calls Tryz.prog 51 #[.pointer (some ⟨fb, 0, none⟩)] w fun e w' => e = .returned (.bool (decide (left < 0))) ∧ w = w' := by
  have q := h.cell 0
  simp only [List.getElem?_cons_zero] at q
  obtain ⟨d, hd⟩ : ∃ d, decide (left < 0) = d := ⟨_, rfl⟩
  rw [hd]
  go_enter Tryz.func51, Tryz.ntmps51
  go_wp2
  go_ret
  exact ⟨rfl, rfl⟩
theorem wls_app (a b : List (List Wd)) : wls (a ++ b) = wls a + wls b := by simp [wls]
theorem wls_one (x : List Wd) : wls [x] = wlen x := by simp [wls]
theorem LaidP.next {base lb fb : Nat} {w w1 w' : World} {ls : List (List Wd)} {left : Int} {T : List (List Wd)} {ws : List Wd} (hb : Below base w w1) (hk : KeepO w w1) (h : LayS base lb fb w' ((ls ++ T) ++ [ws]) ((left - (wls T : Nat)) - (wlen ws : Nat)) ∧ Below base w1 w' ∧ KeepO w1 w') :
    LayS base lb fb w' (ls ++ (T ++ [ws])) (left - (wls (T ++ [ws]) : Nat)) ∧ Below base w w' ∧ KeepO w w' := by
  refine ⟨?_, hb.trans h.2.1, hk.trans h.2.2⟩
  have h1 := h.1
  rw [List.append_assoc] at h1
  have e : left - (wls T : Nat) - (wlen ws : Nat) = left - (wls (T ++ [ws]) : Nat) := by rw [wls_app, wls_one]; omega
  rwa [e] at h1
theorem wls_take {α : Type} (f : α → List Wd) (l : List α) (k : Nat) : wls ((l.take k).map f) ≤ wls (l.map f) := by
  have : wls (l.map f) = wls ((l.take k).map f) + wls ((l.drop k).map f) := by rw [← wls_app, ← List.map_append, List.take_append_drop]
  omega
set_option maxRecDepth 100000 in
set_option maxHeartbeats 8000000 in
theorem layVars_any (lo hi : Nat) (w : World) (base lb fb : Nat) (ls : List (List Wd)) (left : Int) (kw : Wd) (s : ByteArray) (hs : s.data.toList = kw) (v : Value) (l : List Var) (h : Vars lo hi w v l) (hh : hi ≤ base) (hS : LayS base lb fb w ls left) (hl : ls.length + l.length ≤ 1099511627776) (h1 : -2305843009213693952 ≤ left - (wls (l.map (varL kw)) : Nat)) (h2 : left ≤ 4194304) :
    Calls Tryz.prog 103 #[.string s, v, layV fb lb] w (LaidP base lb fb w ls left (l.map (varL kw))) := by
  obtain ⟨A, n, cap, b, off, rfl, hn, hm, ha, hc⟩ := h
  have hbs : base ≤ w.heap.size := Nat.le_trans hS.1 (by obtain ⟨_, _, _, _, _, o, _⟩ := hS; exact Nat.le_of_lt o.lt)
  have HC := Lib.hid hc
  have HA := Lib.hid ha
  have HN := Lib.hid hn
  have HS0 := Lib.hid hS
  have HH := Lib.hid hh
  have HB0 := Lib.hid hbs
  have HW := Lib.hid hs
  clear hc ha hn hS hh hbs hs
  go_enter Tryz.func103, Tryz.ntmps103
  go_wp2
  go_loopw [10] (fun i wr => ∃ k : Nat, k ≤ n ∧ i = .int .i64 k ∧ Hid (LayS base lb fb wr (ls ++ (l.take k).map (varL kw)) (left - (wls ((l.take k).map (varL kw)) : Nat)) ∧ Below base w wr ∧ KeepO w wr)) (fun i _ => n - (intOf i).toNat)
  case atStart => exact ⟨0, Nat.zero_le _, rfl, Lib.hid ⟨by simpa [wls] using HS0.out, Below.refl _ _, KeepO.refl _⟩⟩
  case round =>
  obtain ⟨k, hk, rfl, HR⟩ := hrel
  by_cases hlt : k < n
  · obtain ⟨⟨nm, ty⟩, hx⟩ : ∃ x, l[k]? = some x := ⟨_, List.getElem?_eq_getElem (by have := HN.out; omega)⟩
    obtain ⟨rfl, _, hb1⟩ := HA.out (by omega)
    obtain ⟨cs, _, q1, rfl⟩ := HC.out k _ hx
    obtain ⟨n0, n1⟩ := at2 (cells_later q1 HR.out.2.1 (show b < base by have := HH.out; omega))
    have hbs2 : base ≤ wr.heap.size := Nat.le_trans HB0.out HR.out.2.1.size
    have hbx : Below wr.heap.size wr ((wr.alloc (.cells #[str nm, str ty] 93)).alloc (.cells #[.string s, str nm, str ty] 9)) := ((Below.refl _ _).alloc (Nat.le_refl _) _).alloc (by simp) _
    have hrow := made_row (base := base) (g := wr.heap.size + 1) (w := wr.alloc (.cells #[str nm, str ty] 93)) [.string s, str nm, str ty] [kw, nm, ty] rfl (by simp) (by simp; omega) (by simp [LinesM.strs, ← HW.out]) (by simp)
    have hnx : wls ((l.take (k + 1)).map (varL kw)) = wls ((l.take k).map (varL kw)) + wlen [kw, nm, ty] := by rw [LinesM.take_next hx, List.map_append, wls_app]; exact congrArg _ (wls_one _)
    have hmx := wls_take (varL kw) l (k + 1)
    have QL := Lib.hid (lay_any _ base lb fb (ls ++ (l.take k).map (varL kw)) _ (.slice (some ⟨wr.heap.size + 1, 0, none⟩) 3 3) [kw, nm, ty] (lays_below HR.out.1 hbx) hrow (by rw [List.length_append, List.length_map, List.length_take]; omega) (by simp) (by omega) (by omega))
    have HB2 := Lib.hid (HR.out.2.1.trans (hbx.mono hbs2))
    have HK2 := Lib.hid (HR.out.2.2.trans (KeepO.of_below hbx))
    have HX := Lib.hid hx
    clear hbx hrow hnx hmx hx q1 hbs2
    go_wp2_with ((with_reducible refine QL.out.mono ?_); rintro e w9 ⟨rfl, hp⟩; have HP := Lib.hid (LaidP.next HB2.out HK2.out hp); clear hp)
    go_roundw
    case rel =>
      refine ⟨k + 1, by omega, by go_num, Lib.hid ?_⟩
      have e : (l.take (k + 1)).map (varL kw) = (l.take k).map (varL kw) ++ [[kw, nm, ty]] := by rw [LinesM.take_next HX.out, List.map_append]; rfl
      rw [e]
      exact HP.out
    case measure => simp [intOf]; omega
  · have hkn : l.take k = l := List.take_of_length_le (by have := HN.out; omega)
    rw [hkn] at HR
    go_wp2
    go_end0
    exact ⟨rfl, HR.out⟩
end Go.Proofs.YtkmndgjabkjafaaGreatDoor.Sh6
