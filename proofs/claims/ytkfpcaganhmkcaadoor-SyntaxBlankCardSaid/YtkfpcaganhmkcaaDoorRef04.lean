/-
  The document's own Split, walked: byte by byte.
-/
import Derived.Test.YtkfpcaganhmkcaaDoorProg
import Derived.Test.YtkfpcaganhmkcaaDoorCallsL
import Derived.Lib.Hide
import Derived.Lib.Walk
import Derived.Laws.IdiomStrings
namespace Go.Proofs.YtkfpcaganhmkcaaDoor.R04
open Go.RowKit LinesM Mem

theorem s_info : (Tryd.prog.info? 9).map (fun i => (i.zero, i.size, i.bytes)) = some (some (.string ⟨#[]⟩), 1, 16) := by kernel_rfl
theorem b_info : (Tryd.prog.info? 5).map (fun i => (i.zero, i.size, i.bytes)) = some (some (.int .u8 0), 1, 1) := by kernel_rfl
theorem l_info : (Tryd.prog.info? 70).map (fun i => (i.zero, i.size, i.bytes)) = some (some (.agg #[.int .i64 0, .slice none 0 0]), 2, 32) := by kernel_rfl

def bytes (l : List UInt8) : List Value := l.map fun b => .int .u8 (b.toNat : Int)
theorem drop_at (s : ByteArray) (k : Nat) (h : k < s.size) : s.data.toList.drop k = s[k] :: s.data.toList.drop (k + 1) := by
  rw [List.drop_eq_getElem_cons (by simpa using h)]; rfl
theorem size_list (s : ByteArray) : s.data.toList.length = s.size := by rw [Array.length_toList]; rfl

/-- What splitting a text leaves. -/
def SplitPost (W : World) (r : Res) (e : Ending) (w' : World) : Prop :=
  ∃ v xs, e = .returned (.tuple #[v, .int .i64 (r.2.1 : Int), .int .i64 (r.2.2 : Int)]) ∧ xs.map line = lns r.1 ∧ xs.length ≤ 4194306 ∧ OwnLins 70 9 W.heap.size w'.heap.size w' v xs ∧ Below W.heap.size W w'

/-- What the loop holds in memory: the lines, this line's words, the word that is begun. -/
def RefMem (W : World) (Bl : Nat) (w : World) (v5 v6 v7 : Value) (xs : List ML) (l : List Wd) (wd : Wd) : Prop :=
  W.heap.size ≤ Bl ∧ Bl ≤ w.heap.size ∧ OwnLins 70 9 W.heap.size Bl w v5 xs ∧ w.ownsRow Bl 9 1 v6 l.length (strs l) ∧ w.ownsRow W.heap.size 5 1 v7 wd.length (bytes wd) ∧ Below W.heap.size W w
variable {W w w' : World} {Bl : Nat} {v5 v6 v7 v' : Value} {xs : List ML} {l : List Wd} {wd : Wd}
theorem RefMem.word {c : Int} {b : UInt8} (hc : c = (b.toNat : Int)) (h : RefMem W Bl w v5 v6 v7 xs l wd) (hg : w.grownBy w' v7.ownBlock) (hv : w'.ownsRow W.heap.size 5 1 v' (wd.length + 1) (bytes wd ++ [.int .u8 c])) : RefMem W Bl w' v5 v6 v' xs l (wd ++ [b]) := by
  obtain ⟨h1, h2, h3, h4, h5, h6⟩ := h
  subst hc
  refine ⟨h1, Nat.le_trans h2 hg.size, h3.kept h5 hg (by decide) (.inl (by decide)), h4.kept hg (apart h4 h5 (by decide)), ?_, below_grown h6 h5 hg (Nat.le_trans h1 h2) (Nat.le_refl _)⟩
  rw [List.length_append]
  show w'.ownsRow _ _ _ _ (wd.length + 1) (bytes (wd ++ [b]))
  unfold bytes at hv ⊢
  rw [List.map_append]
  exact hv
theorem RefMem.push (h : RefMem W Bl w v5 v6 v7 xs l wd) (hg : w.grownBy w' v6.ownBlock) (hv : w'.ownsRow Bl 9 1 v' (l.length + 1) (strs l ++ [.string ⟨wd.toArray⟩])) : RefMem W Bl w' v5 v' (.slice none 0 0) xs (l ++ [wd]) [] := by
  obtain ⟨h1, h2, h3, h4, h5, h6⟩ := h
  refine ⟨h1, Nat.le_trans h2 hg.size, h3.kept h4 hg (by decide) (.inr (Nat.le_refl _)), ?_, World.ownsRow_nil _ _ _ _, below_grown h6 h4 hg (Nat.le_trans h1 h2) h1⟩
  rw [List.length_append, strs_append]
  exact hv
theorem RefMem.drop (h : RefMem W Bl w v5 v6 v7 xs l wd) : RefMem W Bl w v5 v6 (.slice none 0 0) xs l [] := by
  obtain ⟨h1, h2, h3, h4, h5, h6⟩ := h
  exact ⟨h1, h2, h3, h4, World.ownsRow_nil _ _ _ _, h6⟩
theorem RefMem.skip (h : RefMem W Bl w v5 v6 v7 xs l wd) : RefMem W Bl w v5 (.slice none 0 0) v7 xs [] wd := by
  obtain ⟨h1, h2, h3, h4, h5, h6⟩ := h
  exact ⟨h1, h2, h3, World.ownsRow_nil _ _ _ _, h5, h6⟩
theorem RefMem.emit {N : Int} (h : RefMem W Bl w v5 v6 (.slice none 0 0) xs l []) (hg : w.grownBy w' v5.ownBlock) (hv : w'.ownsRow W.heap.size 70 2 v' (xs.length + 1) (cells xs ++ [.int .i64 N, v6])) :
    RefMem W w'.heap.size w' v' (.slice none 0 0) (.slice none 0 0) (xs ++ [(N, v6, l)]) [] [] := by
  obtain ⟨h1, h2, h3, h4, h5, h6⟩ := h
  exact ⟨Nat.le_trans (Nat.le_trans h1 h2) hg.size, Nat.le_refl _, h3.push (by decide) (own_lower h4 h1) (Nat.le_trans h2 hg.size) hg.size hg hv rfl, World.ownsRow_nil _ _ _ _, World.ownsRow_nil _ _ _ _, below_grown h6 h3.1 hg (Nat.le_trans h1 h2) (Nat.le_refl _)⟩

/-- What is still to come. -/
def Rest (s : ByteArray) (k n : Nat) (out : List Ln) (t : LS) (r : Res) : Prop := if k ≤ s.size then go n out t (s.data.toList.drop k) = r else (out, 0, 0) = r
variable {s : ByteArray} {k n : Nat} {out : List Ln} {t : LS} {r : Res}
theorem Rest.step (h : Rest s k n out t r) (hk : k < s.size) (hc : s[k] ≠ 10) : Rest s (k + 1) n out (lstep t s[k]) r := by
  unfold Rest at h ⊢
  rw [if_pos (by omega), drop_at s k hk, go, if_neg hc] at h
  rw [if_pos (by omega)]; exact h
theorem Rest.nl (h : Rest s k n out t r) (hk : k < s.size) (hc : s[k] = 10) : (t.bad = true → r = ([], n, 3)) ∧ (t.bad = false → Rest s (k + 1) (n + 1) (emit n out (LinesM.push t.l t.w)) LS.init r) := by
  unfold Rest at h ⊢
  rw [if_pos (by omega), drop_at s k hk, go, if_pos hc] at h
  rw [if_pos (by omega)]
  constructor
  · intro hb; rw [if_pos hb] at h; exact h.symm
  · intro hb; rw [if_neg (by simp [hb])] at h; exact h
theorem Rest.last (h : Rest s k n out t r) (hk : k = s.size) : (t.bad = true → r = ([], n, 3)) ∧ (t.bad = false → Rest s (k + 1) (n + 1) (emit n out (LinesM.push t.l t.w)) LS.init r) := by
  unfold Rest at h ⊢
  have e : s.data.toList.drop k = [] := List.drop_eq_nil_of_le (by rw [size_list]; omega)
  rw [if_pos (by omega), e, go] at h
  rw [if_neg (by omega)]
  constructor
  · intro hb; rw [if_pos hb] at h; exact h.symm
  · intro hb; rw [if_neg (by simp [hb])] at h; exact h
theorem Rest.done (h : Rest s k n out t r) (hk : ¬ k ≤ s.size) : r = (out, 0, 0) := by
  unfold Rest at h
  rw [if_neg hk] at h
  exact h.symm

theorem lns_emit {N : Nat} {u : Value} (h : xs.map line = lns out) : (xs ++ [((N : Int), u, l)]).map line = lns (out ++ [(N, l)]) := by
  unfold lns at h ⊢; rw [List.map_append, List.map_append, h]; rfl
theorem emit_yes {N : Nat} (h : 0 < l.length) : emit N out l = out ++ [(N, l)] := by
  unfold emit; rw [if_neg (by intro e; rw [e] at h; simp at h)]
theorem push_yes (h : 0 < wd.length) : LinesM.push l wd = l ++ [wd] := by
  unfold LinesM.push; rw [if_neg (by intro e; rw [e] at h; simp at h)]
theorem push_no : LinesM.push l [] = l := by unfold LinesM.push; rw [if_pos rfl]
theorem lstep_rem {rm bd : Bool} {c : UInt8} (h : rm = true ∨ c = 59) : lstep ⟨l, wd, rm, bd⟩ c = ⟨LinesM.push l wd, [], true, bd⟩ := by unfold lstep; rw [if_pos h]
theorem lstep_blank {bd : Bool} {c : UInt8} (h0 : c ≠ 59) (h : c = 32 ∨ c = 9) : lstep ⟨l, wd, false, bd⟩ c = ⟨LinesM.push l wd, [], false, bd⟩ := by unfold lstep; rw [if_neg (by simp [h0]), if_pos h]
theorem lstep_other {bd : Bool} {c : UInt8} (h0 : c ≠ 59) (h1 : c ≠ 32) (h2 : c ≠ 9) : lstep ⟨l, wd, false, bd⟩ c = ⟨l, wd ++ [c], false, bd || strayB c⟩ := by unfold lstep; rw [if_neg (by simp [h0]), if_neg (by simp [h1, h2])]
theorem byte_ne {c : UInt8} {m : Nat} (hm : m < 256) (h : ((c.toNat : Int) == (m : Int)) = false) : c ≠ UInt8.ofNat m := by
  intro e; subst e
  simp at h
  omega
theorem byte_eq {c : UInt8} {m : Nat} (h : ((c.toNat : Int) == (m : Int)) = true) : c = UInt8.ofNat m := by
  have : c.toNat = m := by have h2 := h; simp only [beq_iff_eq] at h2; omega
  rw [← this]; simp

theorem strayB_or (b : Bool) (c : UInt8) : (b || strayB c) = (b || (decide ((c.toNat : Int) < 33) || decide (126 < (c.toNat : Int)))) := rfl
theorem one_str (x : Wd) : ∀ u ∈ [Value.string ⟨x.toArray⟩], u.oneCell' = true := by intro u hu; rw [List.mem_singleton] at hu; subst hu; rfl
theorem one_byte (c : Int) : ∀ u ∈ [Value.int .u8 c], u.oneCell' = true := by intro u hu; rw [List.mem_singleton] at hu; subst hu; rfl
theorem two_cells (n : Int) {w : World} {b e k : Nat} {v : Value} {xs : List Value} (h : w.ownsRow b e 1 v k xs) : ∀ u ∈ [Value.int .i64 n, v], u.oneCell' = true := by
  intro u hu
  simp only [List.mem_cons, List.not_mem_nil, or_false] at hu
  rcases hu with rfl | rfl
  · rfl
  · rcases h.2 with ⟨rfl, _⟩ | ⟨g, cap, cur, rfl, _⟩ <;> rfl

set_option maxHeartbeats 40000000 in
set_option maxRecDepth 100000 in
theorem split_any (s : ByteArray) (w : World) (hs : s.size ≤ maxLen) :
    Calls Tryd.prog 18 #[.string s] w (SplitPost w (splitV s.data.toList)) := by
  unfold maxLen at hs
  by_cases hbig : 4194304 < s.size
  · have e1 : decide ((4194304 : Int) < (s.size : Int)) = true := decide_eq_true (by omega)
    have e2 : splitV s.data.toList = ([], 0, 2) := by unfold splitV; rw [if_pos (by rw [size_list]; exact hbig)]
    rw [e2]
    clear e2 hbig
    go_enter Tryd.func18, Tryd.ntmps18
    go_wp2
    go_ret3
    exact ⟨_, [], rfl, rfl, by simp, OwnLins.nil _ _ _ _ _, Below.refl _ _⟩
  · obtain ⟨si, hi, hz0, hz1, hz2⟩ := info_parts s_info
    have Hs := Lib.hid hi
    have Hs0 := Lib.hid hz0
    have Hs1 := Lib.hid hz1
    have Hs2 := Lib.hid hz2
    clear hi hz0 hz1 hz2
    obtain ⟨bi, hi, hz0, hz1, hz2⟩ := info_parts b_info
    have Hb := Lib.hid hi
    have Hb0 := Lib.hid hz0
    have Hb1 := Lib.hid hz1
    have Hb2 := Lib.hid hz2
    clear hi hz0 hz1 hz2
    obtain ⟨li, hi, hz0, hz1, hz2⟩ := info_parts l_info
    have Hl := Lib.hid hi
    have Hl0 := Lib.hid hz0
    have Hl1 := Lib.hid hz1
    have Hl2 := Lib.hid hz2
    clear hi hz0 hz1 hz2
    have e1 : decide ((4194304 : Int) < (s.size : Int)) = false := decide_eq_false (by omega)
    have hs2 : s.size ≤ 4194304 := by omega
    obtain ⟨r, hr⟩ : ∃ r, splitV s.data.toList = r := ⟨_, rfl⟩
    have HR : Hid (Rest s 0 1 [] LS.init r) := by
      unfold Rest
      rw [if_pos (Nat.zero_le _), List.drop_zero]
      unfold splitV at hr
      rw [if_neg (by rw [size_list]; exact hbig)] at hr
      exact Lib.hid hr
    rw [hr]
    clear hr hbig
    go_enter Tryd.func18, Tryd.ntmps18
    go_wp2
    go_loopw [5, 6, 7, 8, 9, 10, 11] (fun v5 v6 v7 v8 v9 v10 v11 wr => ∃ (k n : Nat) (l : List Wd) (wd : Wd) (rm bd : Bool) (xs : List ML) (out : List Ln) (Bl : Nat), k ≤ s.size + 1 ∧ v8 = .int .i64 n ∧ v9 = .bool rm ∧ v10 = .bool bd ∧ v11 = .int .i64 k ∧ n ≤ k + 1 ∧ l.length ≤ k ∧ wd.length ≤ k ∧ xs.length ≤ k ∧
        Hid (Rest s k n out ⟨l, wd, rm, bd⟩ r) ∧ Hid (xs.map line = lns out) ∧ Hid (RefMem w Bl wr v5 v6 v7 xs l wd)) (fun _ _ _ _ _ _ v11 _ => s.size + 1 - (intOf v11).toNat)
    case atStart => exact ⟨0, 1, [], [], false, false, [], [], w.heap.size, Nat.zero_le _, rfl, rfl, rfl, rfl, by omega, by simp, by simp, by simp, HR, Lib.hid rfl, Lib.hid ⟨Nat.le_refl _, Nat.le_refl _, OwnLins.nil _ _ _ _ _, World.ownsRow_nil _ _ _ _, World.ownsRow_nil _ _ _ _, Below.refl _ _⟩⟩
    case round =>
      obtain ⟨k, n, l, wd, rm, bd, xs, out, Bl, hk, rfl, rfl, rfl, rfl, hn, hll, hwl, hxl, HP, HX, HM⟩ := hrel
      obtain ⟨A6, c6, rfl⟩ := own_form HM.out.2.2.2.1
      obtain ⟨A7, c7, rfl⟩ := own_form HM.out.2.2.2.2.1
      by_cases hle : k ≤ s.size
      · by_cases hend : k = s.size
        · have HE := HP.out.last hend
          simp only at HE
          subst hend
          clear HP
          by_cases hw : wd = []
          · subst hw
            rw [push_no] at HE
            cases bd with
            | true =>
              obtain rfl := HE.1 rfl
              clear HE
              go_wp2_with fail
              go_ret3
              exact ⟨_, [], rfl, rfl, by simp, OwnLins.nil _ _ _ _ _, HM.out.2.2.2.2.2⟩
            | false =>
              have HP2 := Lib.hid (HE.2 rfl)
              clear HE
              by_cases hl0 : l = []
              · subst hl0
                have HM2 := Lib.hid HM.out.drop.skip
                go_wp2_with fail
                go_roundw
                case rel => exact ⟨s.size + 1, n + 1, [], [], false, false, xs, out, Bl, by omega, by go_num, rfl, rfl, by go_num, by omega, by simp, by simp, by omega, HP2, HX, HM2⟩
                case measure => simp [intOf] <;> omega
              · have hl1 : 0 < l.length := List.length_pos_iff.2 hl0
                have hl2 : decide (0 < l.length) = true := decide_eq_true hl1
                rw [emit_yes hl1] at HP2
                clear hl0
                have HM1 := Lib.hid HM.out.drop
                have HX2 := Lib.hid (lns_emit (N := n) (u := .slice A6 l.length c6) (l := l) HX.out)
                go_wp2_with (at_builtin; refine wpList_push rfl _ _ 65 rfl w.heap.size 70 li (.agg #[.int .i64 0, .slice none 0 0]) 2 32 Tryd.underlying65 Hl.out Hl0.out Hl1.out Hl2.out rfl (by decide) _ xs.length (cells xs) rfl HM1.out.2.2.1.1 [.int .i64 (n : Int), .slice A6 l.length c6] rfl rfl (two_cells n HM1.out.2.2.2.1) (by unfold maxLen; omega) (by omega) (Nat.le_trans HM1.out.1 HM1.out.2.1) ?_; intro v5' w3 hown3 hg3; have HM2 := Lib.hid (HM1.out.emit hg3 hown3); clear hown3 hg3)
                go_roundw
                case rel => exact ⟨s.size + 1, n + 1, [], [], false, false, _, _, _, by omega, by go_num, rfl, rfl, by go_num, by omega, by simp, by simp, by simp; omega, HP2, HX2, HM2⟩
                case measure => simp [intOf] <;> omega
          · have hw1 : 0 < wd.length := List.length_pos_iff.2 hw
            have hw2 : decide (0 < wd.length) = true := decide_eq_true hw1
            have hcv := own_string (P := Tryd.prog) wr 97 9 5 Tryd.underlying97 Tryd.underlying5 Tryd.underlying9 wd (by intro e; rw [e] at hw1; simp at hw1) HM.out.2.2.2.2.1
            rw [push_yes hw1] at HE
            clear hw
            cases bd with
            | true =>
              obtain rfl := HE.1 rfl
              clear HE
              go_wp2_with (at_builtin; refine wpList_push rfl _ _ 50 rfl Bl 9 si (.string ⟨#[]⟩) 1 16 Tryd.underlying50 Hs.out Hs0.out Hs1.out Hs2.out rfl (by decide) _ l.length (strs l) rfl HM.out.2.2.2.1 [.string ⟨wd.toArray⟩] rfl rfl (one_str wd) (by unfold maxLen; omega) (by omega) HM.out.2.1 ?_; intro v6' w2 hown2 hg2; have HM1 := Lib.hid (HM.out.push hg2 hown2); clear hown2 hg2)
              go_ret3
              exact ⟨_, [], rfl, rfl, by simp, OwnLins.nil _ _ _ _ _, HM1.out.2.2.2.2.2⟩
            | false =>
              have HP2 := Lib.hid (HE.2 rfl)
              clear HE
              have hl1 : 0 < (l ++ [wd]).length := by simp
              rw [emit_yes hl1] at HP2
              obtain ⟨l2, hl2⟩ : ∃ l2, l ++ [wd] = l2 := ⟨_, rfl⟩
              rw [hl2] at HP2 hl1
              have HL2 := Lib.hid hl2
              have hl3 : decide (0 < l2.length) = true := decide_eq_true hl1
              clear hl2
              go_wp2_with (first | (at_builtin; refine wpList_push rfl _ _ 50 rfl Bl 9 si (.string ⟨#[]⟩) 1 16 Tryd.underlying50 Hs.out Hs0.out Hs1.out Hs2.out rfl (by decide) _ l.length (strs l) rfl HM.out.2.2.2.1 [.string ⟨wd.toArray⟩] rfl rfl (one_str wd) (by unfold maxLen; omega) (by omega) HM.out.2.1 ?_; intro v6' w2 hown2 hg2; have hm1 := HM.out.push hg2 hown2; rw [HL2.out] at hm1; have HM1 := Lib.hid hm1; clear hm1; clear hown2 hg2; obtain ⟨A8, c8, rfl⟩ := own_form HM1.out.2.2.2.1) | (at_builtin; refine wpList_push rfl _ _ 65 rfl w.heap.size 70 li (.agg #[.int .i64 0, .slice none 0 0]) 2 32 Tryd.underlying65 Hl.out Hl0.out Hl1.out Hl2.out rfl (by decide) _ xs.length (cells xs) rfl HM1.out.2.2.1.1 [.int .i64 (n : Int), .slice A8 l2.length c8] rfl rfl (two_cells n HM1.out.2.2.2.1) (by unfold maxLen; omega) (by omega) (Nat.le_trans HM1.out.1 HM1.out.2.1) ?_; intro v5' w3 hown3 hg3; have HM2 := Lib.hid (HM1.out.emit hg3 hown3); clear hown3 hg3))
              go_roundw
              case rel =>
                have HX2 := Lib.hid (lns_emit (N := n) (u := .slice A8 l2.length c8) (l := l2) HX.out)
                exact ⟨s.size + 1, n + 1, [], [], false, false, _, _, _, by omega, by go_num, rfl, rfl, by go_num, by omega, by simp, by simp, by simp; omega, HP2, HX2, HM2⟩
              case measure => simp [intOf] <;> omega
        · have hlt : k < s.size := by omega
          have f0 : ((k : Int) == (s.size : Int)) = false := by simp; omega
          rcases Bool.eq_false_or_eq_true ((s[k].toNat : Int) == 10) with c10 | c10
          · have HE := HP.out.nl hlt (byte_eq (m := 10) c10)
            simp only at HE
            clear HP
            by_cases hw : wd = []
            · subst hw
              rw [push_no] at HE
              cases bd with
              | true =>
                obtain rfl := HE.1 rfl
                clear HE
                go_wp2_with fail
                go_ret3
                exact ⟨_, [], rfl, rfl, by simp, OwnLins.nil _ _ _ _ _, HM.out.2.2.2.2.2⟩
              | false =>
                have HP2 := Lib.hid (HE.2 rfl)
                clear HE
                by_cases hl0 : l = []
                · subst hl0
                  have HM2 := Lib.hid HM.out.drop.skip
                  go_wp2_with fail
                  go_roundw
                  case rel => exact ⟨k + 1, n + 1, [], [], false, false, xs, out, Bl, by omega, by go_num, rfl, rfl, by go_num, by omega, by simp, by simp, by omega, HP2, HX, HM2⟩
                  case measure => simp [intOf] <;> omega
                · have hl1 : 0 < l.length := List.length_pos_iff.2 hl0
                  have hl2 : decide (0 < l.length) = true := decide_eq_true hl1
                  rw [emit_yes hl1] at HP2
                  clear hl0
                  have HM1 := Lib.hid HM.out.drop
                  have HX2 := Lib.hid (lns_emit (N := n) (u := .slice A6 l.length c6) (l := l) HX.out)
                  go_wp2_with (at_builtin; refine wpList_push rfl _ _ 65 rfl w.heap.size 70 li (.agg #[.int .i64 0, .slice none 0 0]) 2 32 Tryd.underlying65 Hl.out Hl0.out Hl1.out Hl2.out rfl (by decide) _ xs.length (cells xs) rfl HM1.out.2.2.1.1 [.int .i64 (n : Int), .slice A6 l.length c6] rfl rfl (two_cells n HM1.out.2.2.2.1) (by unfold maxLen; omega) (by omega) (Nat.le_trans HM1.out.1 HM1.out.2.1) ?_; intro v5' w3 hown3 hg3; have HM2 := Lib.hid (HM1.out.emit hg3 hown3); clear hown3 hg3)
                  go_roundw
                  case rel => exact ⟨k + 1, n + 1, [], [], false, false, _, _, _, by omega, by go_num, rfl, rfl, by go_num, by omega, by simp, by simp, by simp; omega, HP2, HX2, HM2⟩
                  case measure => simp [intOf] <;> omega
            · have hw1 : 0 < wd.length := List.length_pos_iff.2 hw
              have hw2 : decide (0 < wd.length) = true := decide_eq_true hw1
              have hcv := own_string (P := Tryd.prog) wr 97 9 5 Tryd.underlying97 Tryd.underlying5 Tryd.underlying9 wd (by intro e; rw [e] at hw1; simp at hw1) HM.out.2.2.2.2.1
              rw [push_yes hw1] at HE
              clear hw
              cases bd with
              | true =>
                obtain rfl := HE.1 rfl
                clear HE
                go_wp2_with (at_builtin; refine wpList_push rfl _ _ 50 rfl Bl 9 si (.string ⟨#[]⟩) 1 16 Tryd.underlying50 Hs.out Hs0.out Hs1.out Hs2.out rfl (by decide) _ l.length (strs l) rfl HM.out.2.2.2.1 [.string ⟨wd.toArray⟩] rfl rfl (one_str wd) (by unfold maxLen; omega) (by omega) HM.out.2.1 ?_; intro v6' w2 hown2 hg2; have HM1 := Lib.hid (HM.out.push hg2 hown2); clear hown2 hg2)
                go_ret3
                exact ⟨_, [], rfl, rfl, by simp, OwnLins.nil _ _ _ _ _, HM1.out.2.2.2.2.2⟩
              | false =>
                have HP2 := Lib.hid (HE.2 rfl)
                clear HE
                have hl1 : 0 < (l ++ [wd]).length := by simp
                rw [emit_yes hl1] at HP2
                obtain ⟨l2, hl2⟩ : ∃ l2, l ++ [wd] = l2 := ⟨_, rfl⟩
                rw [hl2] at HP2 hl1
                have HL2 := Lib.hid hl2
                have hl3 : decide (0 < l2.length) = true := decide_eq_true hl1
                clear hl2
                go_wp2_with (first | (at_builtin; refine wpList_push rfl _ _ 50 rfl Bl 9 si (.string ⟨#[]⟩) 1 16 Tryd.underlying50 Hs.out Hs0.out Hs1.out Hs2.out rfl (by decide) _ l.length (strs l) rfl HM.out.2.2.2.1 [.string ⟨wd.toArray⟩] rfl rfl (one_str wd) (by unfold maxLen; omega) (by omega) HM.out.2.1 ?_; intro v6' w2 hown2 hg2; have hm1 := HM.out.push hg2 hown2; rw [HL2.out] at hm1; have HM1 := Lib.hid hm1; clear hm1; clear hown2 hg2; obtain ⟨A8, c8, rfl⟩ := own_form HM1.out.2.2.2.1) | (at_builtin; refine wpList_push rfl _ _ 65 rfl w.heap.size 70 li (.agg #[.int .i64 0, .slice none 0 0]) 2 32 Tryd.underlying65 Hl.out Hl0.out Hl1.out Hl2.out rfl (by decide) _ xs.length (cells xs) rfl HM1.out.2.2.1.1 [.int .i64 (n : Int), .slice A8 l2.length c8] rfl rfl (two_cells n HM1.out.2.2.2.1) (by unfold maxLen; omega) (by omega) (Nat.le_trans HM1.out.1 HM1.out.2.1) ?_; intro v5' w3 hown3 hg3; have HM2 := Lib.hid (HM1.out.emit hg3 hown3); clear hown3 hg3))
                go_roundw
                case rel =>
                  have HX2 := Lib.hid (lns_emit (N := n) (u := .slice A8 l2.length c8) (l := l2) HX.out)
                  exact ⟨k + 1, n + 1, [], [], false, false, _, _, _, by omega, by go_num, rfl, rfl, by go_num, by omega, by simp, by simp, by simp; omega, HP2, HX2, HM2⟩
                case measure => simp [intOf] <;> omega
          · have n10 := byte_ne (m := 10) (by decide) c10
            have HP1 := Lib.hid (HP.out.step hlt n10)
            clear n10 HP
            rcases Bool.eq_false_or_eq_true ((s[k].toNat : Int) == 59) with c59 | c59
            · have HP2 := Lib.hid HP1.out
              rw [lstep_rem (.inr (byte_eq (m := 59) c59))] at HP2
              clear HP1
              cases rm with
              | true =>
                by_cases hw : wd = []
                · subst hw
                  rw [push_no] at HP2
                  have HM2 := Lib.hid HM.out.drop
                  go_wp2_with fail
                  go_roundw
                  case rel => exact ⟨k + 1, n, l, [], true, bd, xs, out, Bl, by omega, rfl, rfl, rfl, by go_num, by omega, by omega, by simp, by omega, HP2, HX, HM2⟩
                  case measure => simp [intOf] <;> omega
                · have hw1 : 0 < wd.length := List.length_pos_iff.2 hw
                  have hw2 : decide (0 < wd.length) = true := decide_eq_true hw1
                  have hcv := own_string (P := Tryd.prog) wr 97 9 5 Tryd.underlying97 Tryd.underlying5 Tryd.underlying9 wd (by intro e; rw [e] at hw1; simp at hw1) HM.out.2.2.2.2.1
                  rw [push_yes hw1] at HP2
                  clear hw
                  go_wp2_with (at_builtin; refine wpList_push rfl _ _ 50 rfl Bl 9 si (.string ⟨#[]⟩) 1 16 Tryd.underlying50 Hs.out Hs0.out Hs1.out Hs2.out rfl (by decide) _ l.length (strs l) rfl HM.out.2.2.2.1 [.string ⟨wd.toArray⟩] rfl rfl (one_str wd) (by unfold maxLen; omega) (by omega) HM.out.2.1 ?_; intro v6' w2 hown2 hg2; have HM1 := Lib.hid (HM.out.push hg2 hown2); clear hown2 hg2)
                  go_roundw
                  case rel => exact ⟨k + 1, n, l ++ [wd], [], true, bd, xs, out, Bl, by omega, rfl, rfl, rfl, by go_num, by omega, by simp; omega, by simp, by omega, HP2, HX, HM1⟩
                  case measure => simp [intOf] <;> omega
              | false =>
                by_cases hw : wd = []
                · subst hw
                  rw [push_no] at HP2
                  have HM2 := Lib.hid HM.out.drop
                  go_wp2_with fail
                  go_roundw
                  case rel => exact ⟨k + 1, n, l, [], true, bd, xs, out, Bl, by omega, rfl, rfl, rfl, by go_num, by omega, by omega, by simp, by omega, HP2, HX, HM2⟩
                  case measure => simp [intOf] <;> omega
                · have hw1 : 0 < wd.length := List.length_pos_iff.2 hw
                  have hw2 : decide (0 < wd.length) = true := decide_eq_true hw1
                  have hcv := own_string (P := Tryd.prog) wr 97 9 5 Tryd.underlying97 Tryd.underlying5 Tryd.underlying9 wd (by intro e; rw [e] at hw1; simp at hw1) HM.out.2.2.2.2.1
                  rw [push_yes hw1] at HP2
                  clear hw
                  go_wp2_with (at_builtin; refine wpList_push rfl _ _ 50 rfl Bl 9 si (.string ⟨#[]⟩) 1 16 Tryd.underlying50 Hs.out Hs0.out Hs1.out Hs2.out rfl (by decide) _ l.length (strs l) rfl HM.out.2.2.2.1 [.string ⟨wd.toArray⟩] rfl rfl (one_str wd) (by unfold maxLen; omega) (by omega) HM.out.2.1 ?_; intro v6' w2 hown2 hg2; have HM1 := Lib.hid (HM.out.push hg2 hown2); clear hown2 hg2)
                  go_roundw
                  case rel => exact ⟨k + 1, n, l ++ [wd], [], true, bd, xs, out, Bl, by omega, rfl, rfl, rfl, by go_num, by omega, by simp; omega, by simp, by omega, HP2, HX, HM1⟩
                  case measure => simp [intOf] <;> omega
            · have n59 := byte_ne (m := 59) (by decide) c59
              cases rm with
              | true =>
                have HP2 := Lib.hid HP1.out
                rw [lstep_rem (.inl rfl)] at HP2
                clear HP1 n59
                by_cases hw : wd = []
                · subst hw
                  rw [push_no] at HP2
                  have HM2 := Lib.hid HM.out.drop
                  go_wp2_with fail
                  go_roundw
                  case rel => exact ⟨k + 1, n, l, [], true, bd, xs, out, Bl, by omega, rfl, rfl, rfl, by go_num, by omega, by omega, by simp, by omega, HP2, HX, HM2⟩
                  case measure => simp [intOf] <;> omega
                · have hw1 : 0 < wd.length := List.length_pos_iff.2 hw
                  have hw2 : decide (0 < wd.length) = true := decide_eq_true hw1
                  have hcv := own_string (P := Tryd.prog) wr 97 9 5 Tryd.underlying97 Tryd.underlying5 Tryd.underlying9 wd (by intro e; rw [e] at hw1; simp at hw1) HM.out.2.2.2.2.1
                  rw [push_yes hw1] at HP2
                  clear hw
                  go_wp2_with (at_builtin; refine wpList_push rfl _ _ 50 rfl Bl 9 si (.string ⟨#[]⟩) 1 16 Tryd.underlying50 Hs.out Hs0.out Hs1.out Hs2.out rfl (by decide) _ l.length (strs l) rfl HM.out.2.2.2.1 [.string ⟨wd.toArray⟩] rfl rfl (one_str wd) (by unfold maxLen; omega) (by omega) HM.out.2.1 ?_; intro v6' w2 hown2 hg2; have HM1 := Lib.hid (HM.out.push hg2 hown2); clear hown2 hg2)
                  go_roundw
                  case rel => exact ⟨k + 1, n, l ++ [wd], [], true, bd, xs, out, Bl, by omega, rfl, rfl, rfl, by go_num, by omega, by simp; omega, by simp, by omega, HP2, HX, HM1⟩
                  case measure => simp [intOf] <;> omega
              | false =>
                rcases Bool.eq_false_or_eq_true ((s[k].toNat : Int) == 32) with c32 | c32
                · have HP2 := Lib.hid HP1.out
                  rw [lstep_blank n59 (.inl (byte_eq (m := 32) c32))] at HP2
                  clear HP1 n59
                  by_cases hw : wd = []
                  · subst hw
                    rw [push_no] at HP2
                    have HM2 := Lib.hid HM.out.drop
                    go_wp2_with fail
                    go_roundw
                    case rel => exact ⟨k + 1, n, l, [], false, bd, xs, out, Bl, by omega, rfl, rfl, rfl, by go_num, by omega, by omega, by simp, by omega, HP2, HX, HM2⟩
                    case measure => simp [intOf] <;> omega
                  · have hw1 : 0 < wd.length := List.length_pos_iff.2 hw
                    have hw2 : decide (0 < wd.length) = true := decide_eq_true hw1
                    have hcv := own_string (P := Tryd.prog) wr 97 9 5 Tryd.underlying97 Tryd.underlying5 Tryd.underlying9 wd (by intro e; rw [e] at hw1; simp at hw1) HM.out.2.2.2.2.1
                    rw [push_yes hw1] at HP2
                    clear hw
                    go_wp2_with (at_builtin; refine wpList_push rfl _ _ 50 rfl Bl 9 si (.string ⟨#[]⟩) 1 16 Tryd.underlying50 Hs.out Hs0.out Hs1.out Hs2.out rfl (by decide) _ l.length (strs l) rfl HM.out.2.2.2.1 [.string ⟨wd.toArray⟩] rfl rfl (one_str wd) (by unfold maxLen; omega) (by omega) HM.out.2.1 ?_; intro v6' w2 hown2 hg2; have HM1 := Lib.hid (HM.out.push hg2 hown2); clear hown2 hg2)
                    go_roundw
                    case rel => exact ⟨k + 1, n, l ++ [wd], [], false, bd, xs, out, Bl, by omega, rfl, rfl, rfl, by go_num, by omega, by simp; omega, by simp, by omega, HP2, HX, HM1⟩
                    case measure => simp [intOf] <;> omega
                · rcases Bool.eq_false_or_eq_true ((s[k].toNat : Int) == 9) with c9 | c9
                  · have HP2 := Lib.hid HP1.out
                    rw [lstep_blank n59 (.inr (byte_eq (m := 9) c9))] at HP2
                    clear HP1 n59
                    by_cases hw : wd = []
                    · subst hw
                      rw [push_no] at HP2
                      have HM2 := Lib.hid HM.out.drop
                      go_wp2_with fail
                      go_roundw
                      case rel => exact ⟨k + 1, n, l, [], false, bd, xs, out, Bl, by omega, rfl, rfl, rfl, by go_num, by omega, by omega, by simp, by omega, HP2, HX, HM2⟩
                      case measure => simp [intOf] <;> omega
                    · have hw1 : 0 < wd.length := List.length_pos_iff.2 hw
                      have hw2 : decide (0 < wd.length) = true := decide_eq_true hw1
                      have hcv := own_string (P := Tryd.prog) wr 97 9 5 Tryd.underlying97 Tryd.underlying5 Tryd.underlying9 wd (by intro e; rw [e] at hw1; simp at hw1) HM.out.2.2.2.2.1
                      rw [push_yes hw1] at HP2
                      clear hw
                      go_wp2_with (at_builtin; refine wpList_push rfl _ _ 50 rfl Bl 9 si (.string ⟨#[]⟩) 1 16 Tryd.underlying50 Hs.out Hs0.out Hs1.out Hs2.out rfl (by decide) _ l.length (strs l) rfl HM.out.2.2.2.1 [.string ⟨wd.toArray⟩] rfl rfl (one_str wd) (by unfold maxLen; omega) (by omega) HM.out.2.1 ?_; intro v6' w2 hown2 hg2; have HM1 := Lib.hid (HM.out.push hg2 hown2); clear hown2 hg2)
                      go_roundw
                      case rel => exact ⟨k + 1, n, l ++ [wd], [], false, bd, xs, out, Bl, by omega, rfl, rfl, rfl, by go_num, by omega, by simp; omega, by simp, by omega, HP2, HX, HM1⟩
                      case measure => simp [intOf] <;> omega
                  · have HP2 := Lib.hid HP1.out
                    rw [lstep_other n59 (byte_ne (m := 32) (by decide) c32) (byte_ne (m := 9) (by decide) c9)] at HP2
                    clear n59 HP1
                    have hb := strayB_or bd s[k]
                    have HB := Lib.hid hb
                    clear hb
                    rcases bd with _ | _ <;> rcases Bool.eq_false_or_eq_true (decide ((s[k].toNat : Int) < 33)) with g1 | g1 <;> rcases Bool.eq_false_or_eq_true (decide (126 < (s[k].toNat : Int))) with g2 | g2
                    all_goals
                      go_wp2_with (at_builtin; refine wpList_push rfl _ _ 97 rfl w.heap.size 5 bi (.int .u8 0) 1 1 Tryd.underlying97 Hb.out Hb0.out Hb1.out Hb2.out rfl (by decide) _ wd.length (bytes wd) rfl HM.out.2.2.2.2.1 [.int .u8 (s[k].toNat : Int)] rfl rfl (one_byte _) (by unfold maxLen; omega) (by omega) (Nat.le_trans HM.out.1 HM.out.2.1) ?_; intro v7' w2 hown2 hg2; have HM2 := Lib.hid (HM.out.word rfl hg2 hown2); clear hown2 hg2)
                      go_roundw
                      case rel => exact ⟨k + 1, n, l, wd ++ [s[k]], false, _, xs, out, Bl, by omega, rfl, rfl, by rw [HB.out, g1, g2]; rfl, by go_num, by omega, by omega, by simp; omega, by omega, HP2, HX, HM2⟩
                      case measure => simp [intOf] <;> omega
      · obtain rfl := HP.out.done hle
        go_wp2
        go_ret3
        exact ⟨_, xs, rfl, HX.out, by omega, (HM.out.2.2.1).up HM.out.2.1, HM.out.2.2.2.2.2⟩
end Go.Proofs.YtkfpcaganhmkcaaDoor.R04
