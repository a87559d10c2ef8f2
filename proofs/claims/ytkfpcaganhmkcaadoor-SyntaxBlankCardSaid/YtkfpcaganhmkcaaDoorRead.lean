/-
  Package syntax: the lines, one behind the other.
-/
import Derived.Test.YtkfpcaganhmkcaaDoorGood
import Derived.Test.YtkfpcaganhmkcaaDoorCatch
namespace Go.Proofs.YtkfpcaganhmkcaaDoor.Rd5
open Go.RowKit Api Hold Mem Syn WordM Tree Go.Maps

variable {w w' w1 w2 : World} {lo hi rb base N : Nat} {rc : RC} {v : Value} {l ws : List Wd} {row : Option Nat} {a : Tree.Act} {D D2 : List Rec} {p : Prog} {L T : Rec}
def act0 : Tree.Act := ⟨.empty 93 2, .empty 117 2, .empty 117 2, .empty 95 2, .empty 45 5, .empty 117 2, .empty 117 2, .empty 54 9, .empty 63 2, .empty 60 6, .empty 156 4, .empty 160 2⟩
def prog0 : Prog := ⟨false, [], [], [], []⟩
theorem build0 (w : World) (base : Nat) : Build w base act0 [] prog0 0 := by
  have h0 : Apart w base [] := ⟨fun _ h => absurd h (List.not_mem_nil), by simp⟩
  refine ⟨?_, Shape.start, fun r hr => ?_⟩
  · show Apart w base (act0.l ++ [])
    rw [List.append_nil]
    exact ((((((((((((h0.empty _ _).empty _ _).empty _ _).empty _ _).empty _ _).empty _ _).empty _ _).empty _ _).empty _ _).empty _ _).empty _ _).empty _ _)
  · simp only [act0, Tree.Act.l, List.mem_cons, List.not_mem_nil, or_false] at hr
    rcases hr with rfl | rfl | rfl | rfl | rfl | rfl | rfl | rfl | rfl | rfl | rfl | rfl <;> exact Nat.le_refl 0
/-- The reader ahead of the first line. -/
def rc0 : RC := ⟨.bool false, .slice none 0 0, .slice none 0 0, .slice none 0 0, .slice none 0 0, 1, 0, .string ⟨#[]⟩, .slice none 0 0, false⟩
/-- A row of lines: each has words. -/
def LinsR (lo hi : Nat) (w : World) (b off : Nat) (l : List (Nat × List Wd)) : Prop :=
  ∀ i x, l[i]? = some x → ∃ lv, lo ≤ b ∧ b < hi ∧ w.cell? ⟨b, off + i * 2, none⟩ = some (i64 (x.1 : Int)) ∧ w.cell? ⟨b, off + i * 2 + 1, none⟩ = some lv ∧ lv.oneCell' = true ∧ Ws lo hi w lv x.2 ∧ x.2 ≠ [] ∧ x.2.length ≤ 4194304
theorem LinsR.move {l : List (Nat × List Wd)} {b off : Nat} (h : LinsR lo hi w b off l) (hk : ∀ k, lo ≤ k → k < hi → w'.heap[k]? = w.heap[k]?) : LinsR lo hi w' b off l := by
  intro i x hx
  obtain ⟨lv, h1, h2, h3, h4, h5, h6, h7, h8⟩ := h i x hx
  exact ⟨lv, h1, h2, (World.cell?_of_block (w := w) (hk b h1 h2)).trans h3, (World.cell?_of_block (w := w) (hk b h1 h2)).trans h4, h5, h6.move hk, h7, h8⟩
/-- What reading the lines leaves. -/
def ReadP (base rb lo hi : Nat) (w : World) (l : List (Nat × List Wd)) (e : Ending) (w' : World) : Prop :=
  Beside base rb w w' ∧ match parseE l with
  | .error x => e = .returned (.tuple #[i64 (x.1 : Int), i64 x.2])
  | .ok p => e = .returned (.tuple #[i64 0, i64 0]) ∧ ∃ rc a D N B, w.heap.size ≤ B ∧ St w' B rb lo hi rc a D p N []
theorem readE_err {s : Prog × Int × Int} {l1 l2 : List (Nat × List Wd)} {x : Nat × Int} (h : readE s l1 = .error x) : readE s (l1 ++ l2) = .error x := by
  induction l1 generalizing s with
  | nil => cases h
  | cons y l ih =>
    obtain ⟨k, ws⟩ := y
    simp only [List.cons_append, readE] at h ⊢
    cases hE : lineE (lineO s.1 s.2.1 s.2.2 (ws.headD []) ws.tail) with
    | error e => rw [hE] at h; exact h
    | ok s' => rw [hE] at h; exact ih h
theorem st_far {q : Addr} (h : St w base rb lo hi rc a D p N ws) (hq : q.block < base) (h2 : rb < q.block) (u : Value) : St (w.setCell q u) base rb lo hi rc a D p N ws :=
  ⟨(Below.heap_setCell w q u rb (by omega)).trans h.own, h.bld.same fun k hk _ => Below.heap_setCell w q u k (by omega), h.ssa, h.c, h.g, h.e, h.u, h.wds.move fun k _ hk => Below.heap_setCell w q u k (by have := h.low; omega), h.low, h.mid, by have := h.high; simpa [World.setCell] using this⟩
theorem beside_down {B : Nat} (h : Below B w w1) (h2 : Beside base rb w1 w2) (hB : B ≤ base) : Beside B rb w w2 :=
  ⟨h2.os.trans h.os, h2.tape.trans h.tape, h2.output.trans h.output, Nat.le_trans h.size h2.size, fun k hk hn => (h2.block k (by omega) hn).trans (h.block k hk)⟩
set_option maxRecDepth 100000 in
set_option maxHeartbeats 4000000 in
theorem read_any {A : Option Addr} {cap b off : Nat} {l : List (Nat × List Wd)} (hO : OwnR w rb rc0) (hA : 0 < l.length → A = some ⟨b, off, none⟩) (hl : LinsR lo hi w b off l) (hhi : hi ≤ rb) (hL : LaidS w) (hr : 0 < rb) (hsm : l.length ≤ 4194305) :
    Calls Tryd.prog 30 #[ptr rb, .slice A l.length cap] w (ReadP w.heap.size rb lo hi w l) := by
  have hmf : ∀ (fn : Fn) (first cap : Array Value) (w : World), (Instr.makeFunc fn first cap).run Tryd.prog w = .ok (.func fn first cap) w := fun _ _ _ _ => rfl
  have hlt := hO.lt
  have HO := Lib.hid hO
  have HLN := Lib.hid hl
  have HL := Lib.hid hL
  have HA := Lib.hid hA
  clear hO hl hL hA
  have Q := Lib.hid (readers_any (w.alloc (.cells #[.int .i64 0] 39)))
  go_enter_defers Tryd.func30, Tryd.ntmps30
  go_wp2_with (go_at_call 57; (with_reducible refine (Q.out).mono ?_); rintro e w1 ⟨rfl, hm, hb, hsz⟩; have HM := Lib.hid hm; have HB := Lib.hid hb; have HSZ := Lib.hid hsz; clear hm hb hsz)
  obtain ⟨b1, hb1⟩ : ∃ b1, b1 = w.heap.size := ⟨_, rfl⟩
  have ea : (w.alloc (.cells #[.int .i64 0] 39)).heap.size = w.heap.size + 1 := by simp
  have HBE : Hid (Below w.heap.size w w1) := Lib.hid (((Below.refl _ _).alloc (Nat.le_refl _) _).trans ((HB.out).mono (by omega)))
  have hsz1 : w.heap.size + 1 < w1.heap.size := by have := HSZ.out; omega
  have HM1 : Hid (w1.ownsMap Tryd.prog 9 fnElem (w.heap.size + 1) 20 tabD) := Lib.hid (by have := HM.out; rw [ea] at this; exact this)
  have HEC : Hid (w1.cell? ⟨w.heap.size, 0, none⟩ = some (.int .i64 0) ∧ w1.frozen? ⟨w.heap.size, 0, none⟩ = false) := Lib.hid (by
    have hb := HB.out
    rw [ea] at hb
    have o := (Own.made w 39 [.int .i64 0]).below hb (by omega)
    exact ⟨o.cell 0, o.thaw 0⟩)
  have HL1 : Hid (LaidS w1) := Lib.hid ((HL.out).below HBE.out (Nat.le_refl _))
  have HLN1 : Hid (LinsR lo hi w1 b off l) := Lib.hid ((HLN.out).move fun k _ hk => (HBE.out).block k (by omega))
  have HS1 : Hid (St w1 w1.heap.size rb lo hi rc0 act0 [] prog0 0 []) := Lib.hid ⟨((HBE.out).block rb hlt).trans HO.out, build0 _ _, rfl, rfl, rfl, rfl, rfl, ⟨none, 0, 0, 0, 0, rfl, rfl, by omega, by omega, fun h => absurd h (by omega), fun i z hz => by simp at hz, fun z hz => by simp at hz⟩, hhi, by omega, Nat.le_refl _⟩
  clear HM HB HSZ Q HL HLN HO ea hb1
  go_loopw [13] (fun i wr => ∃ (j : Nat) (rc : RC) (a : Tree.Act) (D : List Rec) (p : Prog), i = .int .i64 (j : Int) ∧ j ≤ l.length ∧ Hid (readE (prog0, 1, 0) (l.take j) = .ok (p, rc.place, rc.long)) ∧ Hid (Good p rc.place rc.long) ∧ Hid (St wr w1.heap.size rb lo hi rc a D p j []) ∧ Hid (rc.over = false) ∧ Hid (Beside w1.heap.size rb w1 wr)) (fun i _ => l.length - (intOf i).toNat)
  case atStart => exact ⟨0, rc0, act0, [], prog0, rfl, Nat.zero_le _, Lib.hid rfl, Lib.hid Good.start, HS1, Lib.hid rfl, Lib.hid (Beside.refl _ _ _)⟩
  case round =>
    obtain ⟨j, rc, a, D, p, rfl, hj, HR, HG, HS, HOV, HBS⟩ := hrel
    have hmb : w1.heap.size ≤ wr.heap.size := (HBS.out).size
    have hrbm : rb < w1.heap.size := (HS.out).mid
    have hec : wr.cell? ⟨w.heap.size, 0, none⟩ = some (.int .i64 0) := (World.cell?_of_block (w := w1) (a := ⟨w.heap.size, 0, none⟩) ((HBS.out).block _ (show w.heap.size < w1.heap.size by omega) (show w.heap.size ≠ rb by omega))).trans HEC.out.1
    have hez : wr.frozen? ⟨w.heap.size, 0, none⟩ = false := (World.frozen?_of_block (w := w1) (a := ⟨w.heap.size, 0, none⟩) ((HBS.out).block _ (show w.heap.size < w1.heap.size by omega) (show w.heap.size ≠ rb by omega))).trans HEC.out.2
    have HEW := Lib.hid (And.intro hec hez)
    have HLR : Hid (LinsR lo hi wr b off l) := Lib.hid ((HLN1.out).move fun k _ hk => (HBS.out).block k (by omega) (by omega))
    have HMR : Hid (wr.ownsMap Tryd.prog 9 fnElem (w.heap.size + 1) 20 tabD) := Lib.hid (by
      obtain ⟨es, ck, h1, h2⟩ := HM1.out
      exact ⟨es, ck, ((HBS.out).block _ (by omega) (by omega)).trans h1, h2⟩)
    have HLDR : Hid (LaidS wr) := Lib.hid ((HL1.out).of_block ((HBS.out).block _ (by omega) (by omega)))
    have HBW : Hid (Beside w.heap.size rb w wr) := Lib.hid (beside_down HBE.out HBS.out (by omega))
    by_cases hjl : j < l.length
    · obtain ⟨⟨k, ws⟩, hx⟩ : ∃ x, l[j]? = some x := ⟨l[j], List.getElem?_eq_getElem hjl⟩
      obtain ⟨lv, h1, h2, c1, c2, o1, hW, hne, hlen⟩ := HLR.out j _ hx
      simp only at c1 c2 hW hne hlen
      obtain ⟨y, ls, rfl⟩ := List.exists_cons_of_ne_nil hne
      obtain rfl := HA.out (by omega)
      obtain ⟨A2, n2, cap2, rfl⟩ : ∃ A2 n2 cap2, lv = .slice A2 n2 cap2 := by obtain ⟨A, n, cap, _, _, e, _⟩ := hW; exact ⟨A, n, cap, e⟩
      have hS2 := (HS.out).alloc (.cells #[i64 (k : Int), (.slice A2 n2 cap2)] 74)
      have hB2 : Beside w1.heap.size rb w1 (wr.alloc (.cells #[i64 (k : Int), (.slice A2 n2 cap2)] 74)) := (HBS.out).grow (World.grownBy_alloc wr _ none) (Nat.le_refl _) (fun _ h => by cases h)
      have QL := line_any (x := y) (l := ls) (lv := .slice A2 n2 cap2) (mb := w.heap.size + 1) hS2 HOV.out (by omega) ⟨(HG.out).long.1, by have := (HG.out).long.2; omega⟩ ((HL1.out).of_block (hB2.block _ (by omega) (by omega))) hr (HG.out).fits (hW.move fun q _ hq => heap_alloc_old wr _ (by omega)) hlen ((HMR.out).alloc _) (by omega)
      have hstep : readE (prog0, 1, 0) (l.take (j + 1)) = readE (p, rc.place, rc.long) [(k, y :: ls)] := by
        rw [List.take_add_one, hx]
        show readE _ (l.take j ++ [(k, y :: ls)]) = _
        rw [readE_snoc, HR.out]
      have hB2H := Lib.hid hB2
      cases hE : lineE (lineO p rc.place rc.long y ls) with
      | error er =>
        rw [hE] at QL
        have QLH := Lib.hid QL
        have HPE : Hid (parseE l = .error (k, er)) := Lib.hid (by
          have e1 : readE (prog0, 1, 0) (l.take (j + 1)) = .error (k, er) := by rw [hstep]; simp only [readE, List.headD_cons, List.tail_cons]; rw [hE]
          have e2 := readE_err (l2 := l.drop (j + 1)) e1
          rw [List.take_append_drop] at e2
          unfold parseE
          rw [show (⟨false, [], [], [], []⟩ : Prog) = prog0 from rfl, e2])
        clear QL hE hstep hS2 hB2 hW hne hlen hx
        go_wp2_with (go_at_call 58; (with_reducible refine (QLH.out).mono ?_); rintro e w4 ⟨hB, rfl⟩; have HB4 := Lib.hid (hB2H.out.trans hB); clear hB)
        have hec4 : w4.cell? ⟨w.heap.size, 0, none⟩ = some (.int .i64 0) := (World.cell?_of_block (w := w1) (a := ⟨w.heap.size, 0, none⟩) ((HB4.out).block _ (show w.heap.size < w1.heap.size by omega) (show w.heap.size ≠ rb by omega))).trans HEC.out.1
        have hez4 : w4.frozen? ⟨w.heap.size, 0, none⟩ = false := (World.frozen?_of_block (w := w1) (a := ⟨w.heap.size, 0, none⟩) ((HB4.out).block _ (show w.heap.size < w1.heap.size by omega) (show w.heap.size ≠ rb by omega))).trans HEC.out.2
        refine leaves_cons (f := 56) (args := #[.pointer (some ⟨w.heap.size, 0, none⟩)]) (by simp) (by simp [go_sem]) ?_
        refine (catch_panicking ⟨w.heap.size, 0, none⟩ (.int .i64 0) er _ hec4 hez4).mono ?_
        rintro e u' w'' ⟨rfl, rfl, rfl⟩
        simp [Leaves, settle, results, Tryd.results30, go_sem, hec4]
        refine ⟨(beside_down HBE.out HB4.out (by omega)).set (p := ⟨w.heap.size, 0, none⟩) (.inl (Nat.le_refl _)) _, ?_⟩
        rw [HPE.out]
      | ok s2 =>
        obtain ⟨p2, pl2, lg2⟩ := s2
        rw [hE] at QL
        have QLH := Lib.hid QL
        have HG2 := Lib.hid (good_line HG.out hE)
        have HR2 : Hid (readE (prog0, 1, 0) (l.take (j + 1)) = .ok (p2, pl2, lg2)) := Lib.hid (by rw [hstep]; simp only [readE, List.headD_cons, List.tail_cons]; rw [hE])
        clear QL hE hstep hS2 hB2 hW hne hlen hx
        go_wp2_with (go_at_call 58; (with_reducible refine (QLH.out).mono ?_); rintro e w4 ⟨hB, rfl, rc2, a2, D2, hS4, rfl, rfl, h4⟩; have HB4 := Lib.hid (hB2H.out.trans hB); have HS4 := Lib.hid hS4; have H4 := Lib.hid h4; clear hB hS4 h4)
        go_roundw
        case rel => exact ⟨j + 1, rc2, a2, D2, p2, by go_num, by omega, HR2, HG2, HS4, H4, HB4⟩
        case measure => simp [intOf]; omega
    · obtain rfl : j = l.length := by omega
      have HF : Hid (readE (prog0, 1, 0) l = .ok (p, rc.place, rc.long)) := Lib.hid (by have := HR.out; rwa [List.take_length] at this)
      rcases hst : stB rc.place 519 with _ | _
      · have QS := Lib.hid (stands_no (HS.out).own hst)
        have HPE : Hid (parseE l = .error (0, 3)) := Lib.hid (by unfold parseE; rw [show (⟨false, [], [], [], []⟩ : Prog) = prog0 from rfl, HF.out]; simp only; rw [hst]; rfl)
        clear hst
        go_wp2_with (go_at_call 59; (with_reducible refine (QS.out).mono ?_); rintro e w4 ⟨rfl, rfl⟩)
        refine leaves_cons (f := 56) (args := #[.pointer (some ⟨w.heap.size, 0, none⟩)]) (by simp) (by simp [go_sem]) ?_
        refine (catch_panicking ⟨w.heap.size, 0, none⟩ (.int .i64 0) 3 _ HEW.out.1 HEW.out.2).mono ?_
        rintro e u' w'' ⟨rfl, rfl, rfl⟩
        simp [Leaves, settle, results, Tryd.results30, go_sem, hec]
        refine ⟨HBW.out.set (p := ⟨w.heap.size, 0, none⟩) (.inl (Nat.le_refl _)) _, ?_⟩
        rw [HPE.out]
        rfl
      · have QS := Lib.hid (stands_yes (HS.out).own hst)
        have HPE : Hid (parseE l = .ok p) := Lib.hid (by unfold parseE; rw [show (⟨false, [], [], [], []⟩ : Prog) = prog0 from rfl, HF.out]; simp only; rw [hst]; rfl)
        clear hst
        go_wp2_with (go_at_call 59; (with_reducible refine (QS.out).mono ?_); rintro e w4 ⟨rfl, rfl⟩)
        refine leaves_cons (f := 56) (args := #[.pointer (some ⟨w.heap.size, 0, none⟩)]) (by simp) (by simp [go_sem]) ?_
        refine (catch_idle ⟨w.heap.size, 0, none⟩ _).mono ?_
        rintro e u' w'' ⟨rfl, rfl, rfl⟩
        simp [Leaves, settle, results, Tryd.results30, go_sem, hec]
        refine ⟨HBW.out.set (p := ⟨w.heap.size, 0, none⟩) (.inl (Nat.le_refl _)) _, ?_⟩
        rw [HPE.out]
        exact ⟨rfl, rc, a, D, _, _, by omega, st_far (q := ⟨w.heap.size, 0, none⟩) HS.out (show w.heap.size < w1.heap.size by omega) hlt _⟩
end Go.Proofs.YtkfpcaganhmkcaaDoor.Rd5
