/-
  Package syntax: an instruction.
-/
import Derived.Test.YtkmndgjabkjafaaGreatDoorForms
namespace Go.Proofs.YtkmndgjabkjafaaGreatDoor.Rd5
open Go.RowKit Api Hold Mem Syn WordM Tree

variable {w w' w1 w2 : World} {lo hi rb base N : Nat} {rc : RC} {v : Value} {l ws : List Wd} {row : Option Nat} {a : Tree.Act} {D D2 : List Rec} {p : Prog} {L T : Rec}
theorem ins_info : (Tryz.prog.info? 52).map (fun i => (i.zero, i.size, i.bytes)) = some (some (.agg #[.int .i64 0, .string ⟨#[]⟩, .string ⟨#[]⟩, .slice none 0 0, .slice none 0 0, .slice none 0 0]), 6, 112) := by kernel_rfl
theorem ones_ins (k : Int) (x y : Wd) (A : Option Addr) (n c : Nat) : ∀ u ∈ [i64 k, str x, str y, .slice A n c, .slice none 0 0, .slice none 0 0], u.oneCell' = true := by
  intro u hu
  simp only [List.mem_cons, List.not_mem_nil, or_false] at hu
  rcases hu with rfl | rfl | rfl | rfl | rfl | rfl <;> rfl
def insP (p : Prog) (y : Instr) : Prog := inB p fun b => { b with code := b.code ++ [y] }
/-- The arguments ahead of the name. -/
def takeN {β : Type} (take : List Wd → Option (β × List Wd)) : Nat → List Wd → Option (List β × List Wd)
  | 0, l => some ([], l)
  | n + 1, l => match take l with | none => none | some (y, l) => (match takeN take n l with | none => none | some (ys, l) => some (y :: ys, l))
/-- The name, if the form has one. -/
def takeNm (b : Bool) (l : List Wd) : Option (Wd × List Wd) := if b then takeName l else some ([], l)
def insD (p : Prog) (pl lg : Int) (ov : Bool) (dst x : Wd) (ws : List Wd) : Out :=
  if stB pl 480 = false then none
  else if (opV x).2 = false ∨ (formV (opV x).1).1.dst ≠ (dst != []) then none
  else match takeN takeArg (aheadV (opV x).1) ws with
  | none => none
  | some (us, l1) => match takeNm (formV (opV x).1).1.named l1 with
    | none => none
    | some (nm, l2) => match takeAll takeArg l2.length l2 with
      | none => none
      | some vs => if ((us ++ vs).length : Int) < (formV (opV x).1).1.least ∨ (formV (opV x).1).1.most < ((us ++ vs).length : Int) then none
        else some (insP p ⟨(opV x).1, dst, nm, us ++ vs, [], []⟩, behindV (opV x).1, lg + 1, ov || decide (1024 < lg + 1), [])
theorem opFrom_lt (x : Wd) (k : Nat) (h : k ≤ 35) (h1 : 1 ≤ k) : (opFrom x k).2 = true → 1 ≤ (opFrom x k).1 ∧ (opFrom x k).1 ≤ 34 := by
  obtain ⟨n, hn⟩ : ∃ n, 35 - k = n := ⟨_, rfl⟩
  induction n generalizing k with
  | zero =>
    rw [opFrom, dif_neg (by omega)]
    intro h; cases h
  | succ n ih =>
    rw [opFrom, dif_pos (by omega)]
    split
    · intro _; simp only; omega
    · exact ih (k + 1) (by omega) (by omega) (by omega)
theorem opV_lt {x : Wd} (h : (opV x).2 = true) : 1 ≤ (opV x).1 ∧ (opV x).1 ≤ 34 := opFrom_lt x 1 (by omega) (by omega) h
theorem of_any5 (op : Nat) (w : World) (hL : LaidS w) : Calls Tryz.prog 153 #[i64 (op : Int)] w (OfR w op) := by
  by_cases h : 1 ≤ op ∧ op ≤ 34
  · exact of_yes op w hL h
  · exact of_no op w (by omega)
theorem last_code (h : St w base rb lo hi rc a D p N ws) (hne : p.funcs ≠ []) (hnb : lastB p ≠ []) : SpineRow 52 6 (IsInstr D) (QInstr a D) a.K (theB p).code ∧ a.B.n = (lastB p).length := by
  obtain ⟨_, _, _, _, _, _, _, _, _, _, _, _, hq⟩ := func_path h hne
  obtain ⟨_, _, _, hb⟩ := hq
  obtain ⟨init, x, c, e, _, hqb, _⟩ := hb.at hnb
  obtain ⟨c2, _, _, h2, _⟩ := hqb
  have hl : theB p = x := by unfold theB; exact last_of e
  exact ⟨by rw [hl]; exact h2, hb.2.2.1⟩

/-- How a line stands behind an instruction's words so far. -/
structure Ins (w0 : World) (w : World) (base rb lo hi : Nat) (rc : RC) (a : Tree.Act) (D : List Rec) (p : Prog) (N : Nat) (ws : List Wd) (lb : Nat) (op : Int) (dst nm : Wd) (T : Rec) (vs : List Arg) : Prop where
  loc : Loc w base rb lo hi rc a D p N ws (lrec 52 6 lb [i64 op, str dst, str nm, T.v, .slice none 0 0, .slice none 0 0]) T
  row : RowIs 42 3 (fun c x => c = argC x) T vs
  bes : Beside base rb w0 w
theorem Ins.slot {w0 : World} {op : Int} {dst nm : Wd} {vs : List Arg} {lb : Nat} (h : Ins w0 w base rb lo hi rc a D p N ws lb op dst nm T vs) : ∃ A c, T.v = .slice A vs.length c := row_val h.loc.onT h.row.2.2.1
/-- An argument more. -/
theorem Ins.push {w0 : World} {op : Int} {dst nm : Wd} {vs : List Arg} {lb g cap : Nat} {x : Arg} {v2 : Value} (h : Ins w0 w base rb lo hi rc a D p N ws lb op dst nm T vs) (hlen : vs.length ≤ 8388608) (hT : OwnR w1 rb { rc with rest := v2 }) (hW : Ws lo hi w1 v2 l) (hg : w.drew.grownBy w1 (some rb))
    (G : Grew (w1.alloc (.cells #[i64 x.kind, str x.s, i64 x.n] 42)) w2 base T (.slice (some ⟨g, 0, none⟩) (T.n + 1) cap) [i64 x.kind, str x.s, i64 x.n]) :
    Ins w0 (w2.setCell ⟨lb, 3, none⟩ (.slice (some ⟨g, 0, none⟩) (T.n + 1) cap)) base rb lo hi { rc with rest := v2 } a D p N l lb op dst nm (grew T (.slice (some ⟨g, 0, none⟩) (T.n + 1) cap) [i64 x.kind, str x.s, i64 x.n]) (vs ++ [x]) := by
  have h2 := h.loc.drew.took hT hW hg
  refine ⟨(h2.grow G).put 3 _, h.row.push (by omega) rfl rfl _, ?_⟩
  exact ((h.bes.trans (Beside.of_grown (gr_undrew hg) h.loc.st.high)).trans (loc_beside h2 G)).set (p := ⟨lb, 3, none⟩) (.inl (h.loc.onL.lt (k := lb) rfl).1) _

theorem shape_monoD (h : Shape a D p) (hD : ∀ F ∈ D, F ∈ D2) : Shape a D2 p := by
  refine ⟨h.c.mono (fun _ _ h => IsClass.mono hD h) fun _ _ h => h, h.g, h.e, h.u.mono (fun _ _ h => IsFunc.mono hD h) fun c x h => ?_⟩
  obtain ⟨e, h1, h2, h3⟩ := h
  refine ⟨e, h1, h2, h3.mono (fun _ _ h => IsBlock.mono hD h) fun c x h => ?_⟩
  obtain ⟨c2, e, h1, h2, h3⟩ := h
  exact ⟨c2, e, h1.mono fun _ _ h => IsPhi.mono hD h, h2.mono (fun _ _ h => IsInstr.mono hD h) fun c x h => QInstr.mono hD h, IsTerm.mono hD h3⟩
/-- a variable just laid, among D. -/
theorem St.lay {t : TypeId} {size : Nat} {cs : List Value} (h : St w base rb lo hi rc a D p N ws) (hl : cs.length = size) : St (w.alloc (.cells cs.toArray t)) base rb lo hi rc a (lrec t size w.heap.size cs :: D) p N ws := by
  have hF : Rec.on (w.alloc (.cells cs.toArray t)) base (lrec t size w.heap.size cs) := by
    refine ⟨by simpa using hl, .inr ⟨w.heap.size, 1, cs.toArray, rfl, h.high, heap_alloc_new w _, Nat.le_refl _, by unfold maxLen; omega, by simpa using hl, ?_⟩⟩
    rw [List.take_of_length_le (by simp [hl])]
  have h1 := add_row h.bld (fun k _ hk => heap_alloc_old w (.cells cs.toArray t) hk) hF (fun k hk => by simp [Value.ownBlock] at hk; omega)
  have h2 := h.alloc (.cells cs.toArray t)
  exact ⟨h2.own, ⟨h1, shape_monoD h.bld.sh fun F hF => List.mem_cons_of_mem _ hF, h.bld.few⟩, h2.ssa, h2.c, h2.g, h2.e, h2.u, h2.wds, h2.low, h2.mid, h2.high⟩
theorem St.below {B : Nat} (h : St w base rb lo hi rc a D p N ws) (hb : Below B w w') (hB : w.heap.size ≤ B) : St w' base rb lo hi rc a D p N ws :=
  h.keep (own_below h.own hb (by have := h.own.lt; omega)) (grown_below hB hb) rfl rfl rfl rfl rfl rfl
/-- a variable among D: its cells. -/
theorem St.slot {t : TypeId} {size fb : Nat} {cs : List Value} (h : St w base rb lo hi rc a D p N ws) (hF : lrec t size fb cs ∈ D) {j : Nat} {u : Value} (hj : cs[j]? = some u) : w.cell? ⟨fb, j, none⟩ = some u :=
  Rec.on.cell (h.bld.ap.1 _ (List.mem_append_right _ hF)) rfl hj
abbrev FitI (p : Prog) (pl : Int) : Prop := stB pl 480 = true → p.funcs ≠ [] ∧ lastB p ≠ []
theorem takeN_step {β : Type} {take : List Wd → Option (β × List Wd)} {n m k : Nat} {l ls l2 : List Wd} {us : List β} {y : β} (hm : m = k + 1) (h : takeN take n l = (takeN take m ls).map fun q => (us ++ q.1, q.2)) (h2 : take ls = some (y, l2)) : takeN take n l = (takeN take k l2).map fun q => (us ++ [y] ++ q.1, q.2) := by
  subst hm
  rw [h]
  simp only [takeN]
  rw [h2]
  simp only
  cases takeN take k l2 with
  | none => rfl
  | some q => simp
theorem takeN_bad {β : Type} {take : List Wd → Option (β × List Wd)} {n m k : Nat} {l ls : List Wd} {us : List β} (hm : m = k + 1) (h : takeN take n l = (takeN take m ls).map fun q => (us ++ q.1, q.2)) (h2 : take ls = none) : takeN take n l = none := by
  subst hm
  rw [h]
  simp only [takeN]
  rw [h2]
  rfl
theorem insD_mis {pl lg : Int} {ov : Bool} {dst x : Wd} (h : (opV x).2 = false ∨ (formV (opV x).1).1.dst ≠ (dst != [])) : insD p pl lg ov dst x ws = none := by
  unfold insD
  by_cases hs : stB pl 480 = false
  · rw [if_pos hs]
  · rw [if_neg hs, if_pos h]
theorem insD_1 {pl lg : Int} {ov : Bool} {dst x : Wd} (h : takeN takeArg (aheadV (opV x).1) ws = none) : insD p pl lg ov dst x ws = none := by
  unfold insD
  rw [h]
  split
  · rfl
  · split <;> rfl
theorem insD_2 {pl lg : Int} {ov : Bool} {dst x : Wd} {us : List Arg} {l1 : List Wd} (h : takeN takeArg (aheadV (opV x).1) ws = some (us, l1)) (h2 : takeNm (formV (opV x).1).1.named l1 = none) : insD p pl lg ov dst x ws = none := by
  unfold insD
  rw [h]
  simp only
  rw [h2]
  split
  · rfl
  · split <;> rfl
theorem insD_3 {pl lg : Int} {ov : Bool} {dst x nm : Wd} {us : List Arg} {l1 l2 : List Wd} (h : takeN takeArg (aheadV (opV x).1) ws = some (us, l1)) (h2 : takeNm (formV (opV x).1).1.named l1 = some (nm, l2)) (h3 : takeAll takeArg l2.length l2 = none) : insD p pl lg ov dst x ws = none := by
  unfold insD
  rw [h]
  simp only
  rw [h2]
  simp only
  rw [h3]
  split
  · rfl
  · split <;> rfl
theorem insD_4 {pl lg : Int} {ov : Bool} {dst x nm : Wd} {us vs : List Arg} {l1 l2 : List Wd} (h : takeN takeArg (aheadV (opV x).1) ws = some (us, l1)) (h2 : takeNm (formV (opV x).1).1.named l1 = some (nm, l2)) (h3 : takeAll takeArg l2.length l2 = some vs) (h4 : ((us ++ vs).length : Int) < (formV (opV x).1).1.least ∨ (formV (opV x).1).1.most < ((us ++ vs).length : Int)) : insD p pl lg ov dst x ws = none := by
  unfold insD
  rw [h]
  simp only
  rw [h2]
  simp only
  rw [h3]
  simp only
  rw [if_pos h4]
  split
  · rfl
  · split <;> rfl
theorem insD_5 {pl lg : Int} {ov : Bool} {dst x nm : Wd} {us vs : List Arg} {l1 l2 : List Wd} (h0 : stB pl 480 = true) (h1 : ¬ ((opV x).2 = false ∨ (formV (opV x).1).1.dst ≠ (dst != []))) (h : takeN takeArg (aheadV (opV x).1) ws = some (us, l1)) (h2 : takeNm (formV (opV x).1).1.named l1 = some (nm, l2)) (h3 : takeAll takeArg l2.length l2 = some vs) (h4 : ¬ (((us ++ vs).length : Int) < (formV (opV x).1).1.least ∨ (formV (opV x).1).1.most < ((us ++ vs).length : Int))) :
    insD p pl lg ov dst x ws = some (insP p ⟨(opV x).1, dst, nm, us ++ vs, [], []⟩, behindV (opV x).1, lg + 1, ov || decide (1024 < lg + 1), []) := by
  unfold insD
  rw [if_neg (by rw [h0]; simp), if_neg h1, h]
  simp only
  rw [h2]
  simp only
  rw [h3]
  simp only
  rw [if_neg h4]
set_option maxRecDepth 100000 in
set_option maxHeartbeats 8000000 in
theorem instr_any (dst x : Wd) (h : St w base rb lo hi rc a D p N ws) (hN : N < 1073741824) (hws : ws.length ≤ 4194304) (hlg : 0 ≤ rc.long ∧ rc.long ≤ 1000000) (hL : LaidS w) (hF : FitI p rc.place) :
    Calls Tryz.prog 131 #[ptr rb, str dst, str x] w (Meth base rb lo hi (N + 1) rc.first w (insD p rc.place rc.long rc.over dst x ws)) := by
  by_cases hs : stB rc.place 480 = true
  · obtain ⟨hne, hnb⟩ := hF hs
    have HSB := Lib.hid hs
    have HS := Lib.hid (stands_yes h.own hs)
    have HH := Lib.hid h
    obtain ⟨⟨op, ok⟩, hop⟩ : ∃ r, opV x = r := ⟨_, rfl⟩
    have q1 := op_take ⟨x.toArray⟩ w hL
    rw [show (⟨x.toArray⟩ : ByteArray).data.toList = x from rfl, hop] at q1
    have Q1 := Lib.hid q1
    obtain ⟨⟨⟨fw, fd, fn, fl, fm⟩, fo⟩, hform⟩ : ∃ r, formV (op : Int) = r := ⟨_, rfl⟩
    have q2 := of_any5 op w hL
    unfold OfR at q2
    rw [hform] at q2
    have Q2 := Lib.hid q2
    have HOP := Lib.hid hop
    have HFO := Lib.hid hform
    clear h hs q1 q2 hop hform
    have HB0 := Lib.hid hnb
    have HN0 := Lib.hid hne
    have HWS := Lib.hid hws
    have HLG := Lib.hid hlg
    have HR0 := Lib.hid (hL.lt)
    clear hL hws hlg hF hne hnb
    have arms : True := trivial
    by_cases hmis : ok = false ∨ fd ≠ (dst != [])
    · have HM : Hid (insD p rc.place rc.long rc.over dst x ws = none) := Lib.hid (insD_mis (by rw [HOP.out]; simp only; rw [HFO.out]; exact hmis))
      rw [HM.out]
      have hd : (dst != []) = !dst.isEmpty := by cases dst <;> rfl
      cases ok with
      | false =>
        clear hmis hd
        go_enter Tryz.func131, Tryz.ntmps131
        go_wp2_with (first
          | (go_at_call 43; (with_reducible refine (HS.out).mono ?_); rintro e w0 ⟨rfl, rfl⟩)
          | (go_at_call 161; (with_reducible refine (Q1.out).mono ?_); rintro e w0 ⟨rfl, rfl⟩)
          | (go_at_call 153; (with_reducible refine (Q2.out).mono ?_); rintro e w1 ⟨rfl, hb⟩; have HB1 := Lib.hid hb; clear hb)
          | (go_at_call 90; (with_reducible refine (refuse_any _ _).mono ?_); rintro e w3 ⟨rfl, rfl⟩))
        exact ⟨rfl, ((Beside.refl base rb w).grow (grown_below (row := none) (Nat.le_refl _) HB1.out) HH.out.high (by simp)).grow (World.grownBy_alloc _ _ none) HH.out.high (by simp), rfl⟩
      | true =>
        have e1 : (!fd == !List.isEmpty dst) = true := by
          rw [hd] at hmis
          cases fd <;> cases hde : dst.isEmpty <;> simp_all
        clear hmis hd
        go_enter Tryz.func131, Tryz.ntmps131
        go_wp2_with (first
          | (go_at_call 43; (with_reducible refine (HS.out).mono ?_); rintro e w0 ⟨rfl, rfl⟩)
          | (go_at_call 161; (with_reducible refine (Q1.out).mono ?_); rintro e w0 ⟨rfl, rfl⟩)
          | (go_at_call 153; (with_reducible refine (Q2.out).mono ?_); rintro e w1 ⟨rfl, hb⟩; have HB1 := Lib.hid hb; clear hb)
          | (go_at_call 90; (with_reducible refine (refuse_any _ _).mono ?_); rintro e w3 ⟨rfl, rfl⟩))
        exact ⟨rfl, ((Beside.refl base rb w).grow (grown_below (row := none) (Nat.le_refl _) HB1.out) HH.out.high (by simp)).grow (World.grownBy_alloc _ _ none) HH.out.high (by simp), rfl⟩
    have HMIS : Hid (¬ ((opV x).2 = false ∨ (formV (opV x).1).1.dst ≠ (dst != []))) := Lib.hid (by rw [HOP.out]; simp only; rw [HFO.out]; exact hmis)
    have hok : ok = true := by cases ok <;> simp_all
    subst hok
    have e1 : (!fd == !List.isEmpty dst) = false := by
      have hd : (dst != []) = !dst.isEmpty := by cases dst <;> rfl
      rw [hd] at hmis
      cases fd <;> cases hde : dst.isEmpty <;> simp_all
    have hlt : 1 ≤ op ∧ op ≤ 34 := by have := opV_lt (x := x) (by rw [HOP.out]); rw [HOP.out] at this; exact this
    obtain ⟨n0, hn0⟩ : ∃ n0, aheadV (op : Int) = n0 := ⟨_, rfl⟩
    have hn1 : n0 ≤ 1 := by rw [← hn0]; unfold aheadV; split <;> omega
    have QA := Lib.hid (ahead_any (op : Int))
    rw [hn0] at QA
    have HA0 := Lib.hid hn0
    have QBH := Lib.hid (behind_any5 (op : Int))
    obtain ⟨i0, hi, hz0, hz1, hz2⟩ := info_parts arg_info
    have Hi := Lib.hid hi
    have Hz0 := Lib.hid hz0
    have Hz1 := Lib.hid hz1
    have Hz2 := Lib.hid hz2
    clear hmis hn0 hi hz0 hz1 hz2 hlt
    go_enter Tryz.func131, Tryz.ntmps131
    go_wp2_with (first
      | (go_at_call 43; (with_reducible refine (HS.out).mono ?_); rintro e w0 ⟨rfl, rfl⟩)
      | (go_at_call 161; (with_reducible refine (Q1.out).mono ?_); rintro e w0 ⟨rfl, rfl⟩)
      | (go_at_call 153; (with_reducible refine (Q2.out).mono ?_); rintro e w1 ⟨rfl, hb⟩; have HS1 := Lib.hid ((HH.out.below hb (Nat.le_refl _)).lay (t := 216) (size := 5) (cs := [str fw, .bool fd, .bool fn, i64 fl, i64 fm]) rfl); have HB1 := Lib.hid (((Beside.refl base rb w).grow (grown_below (row := none) (Nat.le_refl _) hb) HH.out.high (by simp)).grow (World.grownBy_alloc _ (.cells #[str fw, .bool fd, .bool fn, i64 fl, i64 fm] 216) none) HH.out.high (by simp)); clear hb)
      | (go_at_call 162; (with_reducible refine (QA.out _).mono ?_); rintro e w2 ⟨rfl, rfl⟩))
    have HI0 : Hid (Ins w ((w1.alloc (.cells #[str fw, .bool fd, .bool fn, i64 fl, i64 fm] 216)).alloc (.cells #[i64 op, str dst, str [], .slice none 0 0, .slice none 0 0, .slice none 0 0] 52)) base rb lo hi rc a (lrec 216 5 w1.heap.size [str fw, .bool fd, .bool fn, i64 fl, i64 fm] :: D) p N ws (w1.alloc (.cells #[str fw, .bool fd, .bool fn, i64 fl, i64 fm] 216)).heap.size op dst [] (Rec.empty 42 3) []) :=
      Lib.hid ⟨loc_start (t := 52) (size := 6) (t2 := 42) (s2 := 3) (cs := [i64 op, str dst, str [], .slice none 0 0, .slice none 0 0, .slice none 0 0]) HS1.out rfl, RowIs.none _ _ _, HB1.out.grow (World.grownBy_alloc _ _ none) HH.out.high (by simp)⟩
    rw [show (w1.alloc (.cells #[str fw, .bool fd, .bool fn, i64 fl, i64 fm] 216)).heap.size = w1.heap.size + 1 from by simp] at HI0
    go_loopw [39] (fun i wr => ∃ (k m : Nat) (vr : Value) (T : Rec) (ls : List Wd) (us : List Arg), i = .int .i64 (k : Int) ∧ k + m = n0 ∧ ls.length + us.length ≤ ws.length ∧ Hid (Ins w wr base rb lo hi { rc with rest := vr } a (lrec 216 5 w1.heap.size [str fw, .bool fd, .bool fn, i64 fl, i64 fm] :: D) p N ls (w1.heap.size + 1) op dst [] T us) ∧ Hid (takeN takeArg n0 ws = (takeN takeArg m ls).map fun q => (us ++ q.1, q.2))) (fun i _ => n0 - (intOf i).toNat)
    case atStart => exact ⟨0, n0, rc.rest, _, ws, [], rfl, by omega, by simp, HI0, Lib.hid (by cases takeN takeArg n0 ws <;> simp)⟩
    case round =>
      obtain ⟨k, m, vr, ⟨Tt, Ts, Tv, Tn, Tcs⟩, ls, us, rfl, hkm, hlen, HI, HT⟩ := hrel
      obtain ⟨TA, tc, hTv⟩ := HI.out.slot
      simp only at hTv
      subst hTv
      obtain ⟨c3, z3, l3⟩ := (HI.out.loc.cell (j := 3) rfl)
      have hTn : Tn ≤ 4194304 := by have := HI.out.row.2.2.1; have := HWS.out; simp only at *; omega
      have HLEN := Lib.hid hlen
      cases m with
      | succ m =>
        have hk : k < n0 := by omega
        have QV := Lib.hid (argument_take HI.out.loc.drew.st.own HI.out.loc.drew.st.wds HI.out.loc.st.low)
        clear hlen
        go_wp2
        go_region_law (first
          | (go_simp; go_at_call 135; (with_reducible refine (QV.out).mono ?_); intro e w2 hT; rcases take_cases hT with ⟨hn, rfl, hg⟩ | ⟨⟨ak, as_, an⟩, l2, v2, hn, rfl, ho, hw, hg⟩; exact ⟨rfl, Meth.bad (HI.out.bes.trans (Beside.of_grown (gr_undrew hg) HI.out.loc.st.high)) (insD_1 (by rw [HOP.out]; simp only; rw [HA0.out]; exact takeN_bad rfl HT.out hn))⟩; have HL2 := Lib.hid (HI.out.loc.drew.took ho hw hg); obtain ⟨c1b, z1b, l1b⟩ := HL2.out.cell (j := 3) rfl; have c1d := al_cell (x := .cells #[i64 ak, str as_, i64 an] 42) c1b; have HN2 := Lib.hid hn; have HO2 := Lib.hid ho; have HW2 := Lib.hid hw; have HG2 := Lib.hid hg; clear hT hn ho hw hg)
          | (refine step_grow (w0 := w2) rfl _ _ 48 (by rfl) base 42 i0 (.agg #[.int .i64 0, .string ⟨#[]⟩, .int .i64 0]) 3 32 Tryz.underlying48 Hi.out Hz0.out Hz1.out Hz2.out rfl (by decide) (by decide) _ HI.out.row.1 HI.out.row.2.1 (by rfl) HL2.out.onT [i64 ak, str as_, i64 an] _ rfl (by rfl) rfl (ones_arg _ _ _) (by simp only; omega) HL2.out.st.high ?_; intro g cap w3 hG; have HG := Lib.hid hG; obtain ⟨c1c, z1c, l1c⟩ := HL2.out.cell_grew hG (j := 3) rfl; clear hG))
        all_goals
          go_wp2
          go_roundw
          case rel => exact ⟨k + 1, m, v2, grew ⟨Tt, Ts, .slice TA us.length tc, Tn, Tcs⟩ (.slice (some ⟨g, 0, none⟩) (Tn + 1) cap) [i64 ak, str as_, i64 an], l2, us ++ [⟨ak, as_, an⟩], by go_num, by omega, (by have := HLEN.out; have := takeArg_less HN2.out; simp only [List.length_append, List.length_singleton]; omega), Lib.hid (HI.out.push (x := ⟨ak, as_, an⟩) (by have := HLEN.out; have := HWS.out; omega) HO2.out HW2.out HG2.out HG.out), Lib.hid (takeN_step rfl HT.out HN2.out)⟩
          case measure => simp [intOf]; omega
      | zero =>
        have hk : ¬ k < n0 := by omega
        have HU : Hid (takeN takeArg n0 ws = some (us, ls)) := Lib.hid (by rw [HT.out]; simp [takeN])
        have f2 := HI.out.loc.st.slot (t := 216) (size := 5) (fb := w1.heap.size) (cs := [str fw, .bool fd, .bool fn, i64 fl, i64 fm]) List.mem_cons_self (j := 2) rfl
        have hmeet : ∀ (wr2 : World) (vr2 : Value) (nm : Wd) (ls2 : List Wd), Ins w wr2 base rb lo hi { rc with rest := vr2 } a (lrec 216 5 w1.heap.size [str fw, .bool fd, .bool fn, i64 fl, i64 fm] :: D) p N ls2 (w1.heap.size + 1) op dst nm ⟨Tt, Ts, .slice TA us.length tc, Tn, Tcs⟩ us → takeNm fn ls = some (nm, ls2) → ls2.length + us.length ≤ ws.length → True := fun _ _ _ _ _ _ _ => trivial
        clear hmeet
        clear hlen
        cases fn
        all_goals
          go_wp2_with (first
            | (go_at_call 122; (with_reducible refine (name_take HI.out.loc.st.own HI.out.loc.st.wds HI.out.loc.st.low).mono ?_); intro e w4 hT; rcases take_cases hT with ⟨hn, rfl, hg⟩ | ⟨nm, ls2, v2, hn, rfl, ho, hw, hg⟩; exact ⟨rfl, Meth.bad (HI.out.bes.trans (Beside.of_grown hg HI.out.loc.st.high)) (insD_2 (by rw [HOP.out]; simp only; rw [HA0.out]; exact HU.out) (by rw [HOP.out]; simp only; rw [HFO.out]; exact hn))⟩; have hL4 := HI.out.loc.took ho hw hg; obtain ⟨c2n, z2n, l2n⟩ := hL4.cell (j := 2) rfl; have HI4 := Lib.hid (Ins.mk (hL4.put 2 (str nm)) HI.out.row ((HI.out.bes.trans (Beside.of_grown hg HI.out.loc.st.high)).set (p := ⟨w1.heap.size + 1, 2, none⟩) (.inl (HI.out.loc.onL.lt (k := w1.heap.size + 1) rfl).1) (str nm))); have HNM : Hid (takeNm true ls = some (nm, ls2)) := Lib.hid (by unfold takeNm; rw [if_pos rfl]; exact hn); have HLS : Hid (ls2.length + us.length ≤ ws.length) := Lib.hid (by have := HLEN.out; have := takeName_less hn; omega); clear hT hn ho hw hg hL4))
        · obtain ⟨nm, hnm⟩ : ∃ nm : Wd, nm = [] := ⟨_, rfl⟩
          obtain ⟨ls2, rfl⟩ : ∃ l2, l2 = ls := ⟨_, rfl⟩
          obtain ⟨v2, rfl⟩ : ∃ v2, v2 = vr := ⟨_, rfl⟩
          have HI4 := HI
          rw [← hnm] at HI4
          have HNM : Hid (takeNm false ls2 = some (nm, ls2)) := Lib.hid (by unfold takeNm; rw [hnm]; rfl)
          have HLS := HLEN
          clear hnm
          obtain ⟨fnb, HFB⟩ : ∃ fnb, Hid (fnb = false) := ⟨_, Lib.hid rfl⟩
          rw [← HFB.out] at HNM HFO HI4
          obtain ⟨wo, rfl⟩ : ∃ wo : World, wo = wr := ⟨_, rfl⟩
          clear f2 c3 z3 l3 HI HI0 HS1 HB1 Q1 Q2 HS QA
          have HUS : Hid (us.length ≤ 4194304) := Lib.hid (by have := HLS.out; have := HWS.out; omega)
          clear hk hkm hTn
          go_loopw [59] (fun _ wr => ∃ (vr : Value) (T : Rec) (l3 : List Wd) (vs : List Arg), Hid (Ins w wr base rb lo hi { rc with rest := vr } a (lrec 216 5 w1.heap.size [str fw, .bool fd, .bool fnb, i64 fl, i64 fm] :: D) p N l3 (w1.heap.size + 1) op dst nm T (us ++ vs)) ∧ Hid (All takeArg ls2 l3 vs)) (fun _ wr => restLen rb wr)
          case atStart => exact ⟨v2, _, ls2, [], Lib.hid (by rw [List.append_nil]; exact HI4.out), Lib.hid (All.start _ _)⟩
          case round =>
            clear HI4
            obtain ⟨vq, ⟨Ut, Us, Uv, Un, Ucs⟩, l3, vs, HI, HA⟩ := hrel
            obtain ⟨TB, tb, hUv⟩ := HI.out.slot
            simp only at hUv
            subst hUv
            obtain ⟨c3, z3, l3x⟩ := (HI.out.loc.cell (j := 3) rfl)
            obtain ⟨rA, rcap, _, f8⟩ := rest_form HI.out.loc.st
            have hvl : (us ++ vs).length ≤ 8388608 := by have := HA.out.len; have := HLS.out; have := HWS.out; have := HUS.out; rw [List.length_append]; omega
            have hUn : Un ≤ 8388608 := by have := HI.out.row.2.2.1; simp only at this; omega
            cases l3 with
            | cons y0 l3 =>
              have QV := Lib.hid (argument_take HI.out.loc.drew.st.own HI.out.loc.drew.st.wds HI.out.loc.st.low)
              have hlp : 0 < l3.length + 1 := by omega
              rw [List.length_cons] at f8
              obtain ⟨nv, hnv⟩ : ∃ nv, (us ++ vs).length = nv := ⟨_, rfl⟩
              have HNV := Lib.hid hnv
              rw [hnv] at c3 hvl
              clear hnv
              go_wp2
              go_region_law (first
                | (go_simp; go_at_call 135; (with_reducible refine (QV.out).mono ?_); intro e w2 hT; rcases take_cases hT with ⟨hn, rfl, hg⟩ | ⟨⟨ak, as_, an⟩, l4, v4, hn, rfl, ho, hw, hg⟩; exact ⟨rfl, Meth.bad (HI.out.bes.trans (Beside.of_grown (gr_undrew hg) HI.out.loc.st.high)) (insD_3 (by rw [HOP.out]; simp only; rw [HA0.out]; exact HU.out) (by rw [HOP.out]; simp only; rw [HFO.out]; exact HNM.out) (HA.out.bad (List.cons_ne_nil _ _) hn))⟩; have HL2 := Lib.hid (HI.out.loc.drew.took ho hw hg); have c1x := HL2.out.cell (j := 3) rfl; rw [HNV.out] at c1x; obtain ⟨c1b, z1b, l1b⟩ := c1x; have c1d := al_cell (x := .cells #[i64 ak, str as_, i64 an] 42) c1b; have HN2 := Lib.hid hn; have HO2 := Lib.hid ho; have HW2 := Lib.hid hw; have HG2 := Lib.hid hg; clear hT hn ho hw hg)
                | (refine step_grow (w0 := w2) rfl _ _ 48 (by rfl) base 42 i0 (.agg #[.int .i64 0, .string ⟨#[]⟩, .int .i64 0]) 3 32 Tryz.underlying48 Hi.out Hz0.out Hz1.out Hz2.out rfl (by decide) (by decide) _ HI.out.row.1 HI.out.row.2.1 (by rw [HNV.out]; rfl) HL2.out.onT [i64 ak, str as_, i64 an] _ rfl (by rfl) rfl (ones_arg _ _ _) (by simp only; omega) HL2.out.st.high ?_; intro g cap w3 hG; have HG := Lib.hid hG; have c1y := HL2.out.cell_grew hG (j := 3) rfl; rw [HNV.out] at c1y; obtain ⟨c1c, z1c, l1c⟩ := c1y; clear hG))
              all_goals
                go_wp2
                go_roundw
                case rel => exact ⟨v4, grew ⟨Ut, Us, .slice TB (us ++ vs).length tb, Un, Ucs⟩ (.slice (some ⟨g, 0, none⟩) (Un + 1) cap) [i64 ak, str as_, i64 an], l4, vs ++ [⟨ak, as_, an⟩], Lib.hid (by rw [← List.append_assoc]; exact HI.out.push (x := ⟨ak, as_, an⟩) (by rw [HNV.out]; exact hvl) HO2.out HW2.out HG2.out HG.out), Lib.hid (HA.out.step HN2.out (by have := takeArg_less HN2.out; omega))⟩
                case measure =>
                  have e1 := restLen_of HI.out.loc.st
                  have e2 := restLen_of (HI.out.push (x := ⟨ak, as_, an⟩) (by rw [HNV.out]; exact hvl) HO2.out HW2.out HG2.out HG.out).loc.st
                  have e3 := takeArg_less HN2.out
                  simp only [List.length_cons] at e1 e3
                  rw [e1, e2]
                  omega
            | nil =>
              rw [List.length_nil] at f8
              have f3 := HI.out.loc.st.slot (t := 216) (size := 5) (fb := w1.heap.size) (cs := [str fw, .bool fd, .bool fnb, i64 fl, i64 fm]) List.mem_cons_self (j := 3) rfl
              have f4 := HI.out.loc.st.slot (t := 216) (size := 5) (fb := w1.heap.size) (cs := [str fw, .bool fd, .bool fnb, i64 fl, i64 fm]) List.mem_cons_self (j := 4) rfl
              obtain ⟨nv, hnv⟩ : ∃ nv, (us ++ vs).length = nv := ⟨_, rfl⟩
              have HNV := Lib.hid hnv
              rw [hnv] at c3 hvl
              by_cases hb : (nv : Int) < fl ∨ fm < (nv : Int)
              · have HBAD : Hid (insD p rc.place rc.long rc.over dst x ws = none) := Lib.hid (insD_4 (by rw [HOP.out]; simp only; rw [HA0.out]; exact HU.out) (by rw [HOP.out]; simp only; rw [HFO.out]; exact HNM.out) HA.out.done (by rw [HOP.out]; simp only; rw [HFO.out, hnv]; exact hb))
                clear hnv
                by_cases hb1 : (nv : Int) < fl
                · have g1 : decide ((nv : Int) < fl) = true := decide_eq_true hb1
                  clear hb
                  go_wp2_with (go_at_call 90; (with_reducible refine (refuse_any _ _).mono ?_); rintro e w3 ⟨rfl, rfl⟩)
                  exact ⟨rfl, Meth.bad HI.out.bes HBAD.out⟩
                · have g1 : decide ((nv : Int) < fl) = false := decide_eq_false hb1
                  have g2 : decide (fm < (nv : Int)) = true := decide_eq_true (by omega)
                  clear hb
                  go_wp2_with (go_at_call 90; (with_reducible refine (refuse_any _ _).mono ?_); rintro e w3 ⟨rfl, rfl⟩)
                  exact ⟨rfl, Meth.bad HI.out.bes HBAD.out⟩
              · have g1 : decide ((nv : Int) < fl) = false := decide_eq_false (by omega)
                have g2 : decide (fm < (nv : Int)) = false := decide_eq_false (by omega)
                have HDONE : Hid (insD p rc.place rc.long rc.over dst x ws = some (insP p ⟨(op : Int), dst, nm, us ++ vs, [], []⟩, behindV (op : Int), rc.long + 1, rc.over || decide (1024 < rc.long + 1), [])) := Lib.hid (by
                  have := insD_5 (p := p) (pl := rc.place) (lg := rc.long) (ov := rc.over) HSB.out HMIS.out (by rw [HOP.out]; simp only; rw [HA0.out]; exact HU.out) (by rw [HOP.out]; simp only; rw [HFO.out]; exact HNM.out) HA.out.done (by rw [HOP.out]; simp only; rw [HFO.out, hnv]; exact hb)
                  rw [HOP.out] at this
                  exact this)
                clear hb hnv
                obtain ⟨m, q1, cap1, hlen, hav, hgb, hgl, hm, fR, fV, fB, hz, hqf⟩ := func_path HI.out.loc.st HN0.out
                obtain ⟨m2, q2, cap2, hlen2, hav2, hgb2, hgl2, hm2, fH, fK, hz2, c2, hqb, hc2⟩ := block_path HI.out.loc.st HN0.out HB0.out
                obtain ⟨hrK, hbn⟩ := last_code HI.out.loc.st HN0.out HB0.out
                have fu := HI.out.loc.st.cells.2.2.2.2.1
                rw [hav] at fu
                rw [hav2] at fB
                have QB := Lib.hid (lastBlock_any fu hm fB hm2)
                have hcn : a.K.n ≤ N := HI.out.loc.st.bld.few _ (by simp [Act.l])
                have hr2 : q2 ≠ rb := by have := HI.out.loc.st.mid; omega
                have HR2 := Lib.hid hr2
                have HRK := Lib.hid hrK
                have HCK := Lib.hid fK
                have HZ2 := Lib.hid (hz2 (m2 * 9 + 2))
                have HAV2 := Lib.hid hav2
                have HLL2 := Lib.hid hlen2
                have HBN := Lib.hid hbn
                have HGB2 := Lib.hid hgb2
                have HGL2 := Lib.hid hgl2
                obtain ⟨j0, jz, hj0, hj1, hj2⟩ := info_parts ins_info
                have Hj := Lib.hid jz
                have Hj0 := Lib.hid hj0
                have Hj1 := Lib.hid hj1
                have Hj2 := Lib.hid hj2
                have HC0 := Lib.hid (HI.out.loc.cell (j := 0) rfl).1
                have HC1 := Lib.hid (HI.out.loc.cell (j := 1) rfl).1
                have HC2 := Lib.hid (HI.out.loc.cell (j := 2) rfl).1
                have HC3 := Lib.hid c3
                have HC4 := Lib.hid (HI.out.loc.cell (j := 4) rfl).1
                have HC5 := Lib.hid (HI.out.loc.cell (j := 5) rfl).1
                clear hlen hav hgb hgl hm fR fV fB hz hqf hlen2 hav2 hgb2 hgl2 hm2 fH fK hz2 hqb hc2 hrK hbn fu hr2 jz hj0 hj1 hj2
                go_wp2_with (go_at_call 129; (with_reducible refine (QB.out).mono ?_); rintro e w5 ⟨rfl, hs5⟩; have HS5 := Lib.hid hs5; have o5 := hs5.cell HCK.out; have k0 := hs5.cell HC0.out; have k1 := hs5.cell HC1.out; have k2 := hs5.cell HC2.out; have k3 := hs5.cell HC3.out; have k4 := hs5.cell HC4.out; have k5 := hs5.cell HC5.out; have o5d := al_cell (x := .cells #[i64 op, str dst, str nm, .slice TB nv tb, .slice none 0 0, .slice none 0 0] 52) o5; have HLd := Lib.hid (HI.out.loc.sameH hs5).drew; clear hs5)
                go_region_law (refine step_grow_d (w0 := w5) rfl _ _ 40 (by rfl) base 52 j0 (.agg #[.int .i64 0, .string ⟨#[]⟩, .string ⟨#[]⟩, .slice none 0 0, .slice none 0 0, .slice none 0 0]) 6 112 Tryz.underlying40 Hj.out Hj0.out Hj1.out Hj2.out rfl (by decide) (by decide) a.K HRK.out.1 HRK.out.2.1 (by rfl) (HLd.out.st.on (by simp [Act.l])) [i64 op, str dst, str nm, .slice TB nv tb, .slice none 0 0, .slice none 0 0] _ rfl (by rfl) rfl (ones_ins _ _ _ _ _ _) (by omega) HLd.out.st.high ?_; intro g cap w6 hG; have HGR := Lib.hid hG; have ho2 := own_grown HLd.out.st hG (by simp [Act.l]); obtain ⟨f1c, z1c, l1c⟩ := grew_cell hG (show q2 < w5.drew.heap.size from by have := HGL2.out; have := HS5.out.1; show q2 < w5.heap.size; rw [this]; assumption) (ap_ne (A := [a.C, a.F, a.G, a.E, a.U, a.R, a.V, a.B, a.H]) (B := [a.M, a.O] ++ (lrec 216 5 w1.heap.size [str fw, .bool fd, .bool fnb, i64 fl, i64 fm] :: D)) (x := a.B) HLd.out.st.bld.ap (by simp) (by rw [HAV2.out]; rfl)) (HS5.out.drew.cell HCK.out) (HS5.out.drew.thaw HZ2.out); have HO2 := Lib.hid (own_set (a := ⟨q2, m2 * 9 + 2, none⟩) ho2 HR2.out (.slice (some ⟨g, 0, none⟩) (a.K.n + 1) cap)); clear hG ho2)
                all_goals
                  go_wp2_with (first
                    | (go_at_call 130; (with_reducible refine (lengthen_any HO2.out HLG.out).mono ?_); rintro e w7 ⟨rfl, ho3, hg3⟩; have HO3 := Lib.hid ho3; have HG3 := Lib.hid hg3; obtain ⟨f5, z5, l5⟩ := own_at5 ho3; clear ho3 hg3)
                    | (go_at_call 163; (with_reducible refine (QBH.out _).mono ?_); rintro e w8 ⟨rfl, rfl⟩))
                  go_end0
                  rw [← HNV.out] at HGR
                  have hap := ap_same (loc_sub1 HLd.out.ap) (w' := w5.drew.alloc (.cells #[i64 op, str dst, str nm, .slice TB (us ++ vs).length tb, .slice none 0 0, .slice none 0 0] 52)) fun k _ hk => heap_alloc_old w5.drew _ hk
                  have hB := Build.instr (g0 := q2) (cap := cap2) (op := op) (dst := dst) (name := nm) (args := us ++ vs) (al_build HLd.out.st.bld (.cells #[i64 op, str dst, str nm, .slice TB (us ++ vs).length tb, .slice none 0 0, .slice none 0 0] 52)) HN0.out HB0.out hap (fun _ h => List.mem_cons_of_mem _ h) (.of List.mem_cons_self HI.out.row) HGR.out (by rw [HAV2.out, HBN.out, HLL2.out]) hN
                  rw [HLL2.out, Nat.add_sub_cancel] at hB
                  obtain ⟨b1, b2, b3⟩ := inner_end2 HLd.out.st (HI.out.bes.trans HS5.out.drew.beside) (by simp [Act.l]) HGR.out hB HGB2.out HG3.out
                  exact Meth.ok (p2 := insP p ⟨(op : Int), dst, nm, us ++ vs, [], []⟩) (b1.set (p := ⟨rb, 5, none⟩) (.inr rfl) _) HDONE.out (HLd.out.st.finish (b2.set (p := ⟨rb, 5, none⟩) (.inr rfl) _) (HO3.out.store 5 (i64 (behindV (op : Int)))) (rb_set b3 HH.out.mid 5 _) (rcf := { rc with rest := vq, long := rc.long + 1, over := rc.over || decide (1024 < rc.long + 1), place := behindV (op : Int) }) HLd.out.st.ssa HLd.out.st.c HLd.out.st.g HLd.out.st.e HLd.out.st.u rfl) rfl rfl rfl rfl
        · obtain ⟨fnb, HFB⟩ : ∃ fnb, Hid (fnb = true) := ⟨_, Lib.hid rfl⟩
          rw [← HFB.out] at HNM HFO HI4
          obtain ⟨wo, rfl⟩ : ∃ wo : World, wo = wr := ⟨_, rfl⟩
          clear f2 c3 z3 l3 HI HI0 HS1 HB1 Q1 Q2 HS QA
          have HUS : Hid (us.length ≤ 4194304) := Lib.hid (by have := HLS.out; have := HWS.out; omega)
          clear hk hkm hTn
          go_loopw [59] (fun _ wr => ∃ (vr : Value) (T : Rec) (l3 : List Wd) (vs : List Arg), Hid (Ins w wr base rb lo hi { rc with rest := vr } a (lrec 216 5 w1.heap.size [str fw, .bool fd, .bool fnb, i64 fl, i64 fm] :: D) p N l3 (w1.heap.size + 1) op dst nm T (us ++ vs)) ∧ Hid (All takeArg ls2 l3 vs)) (fun _ wr => restLen rb wr)
          case atStart => exact ⟨v2, _, ls2, [], Lib.hid (by rw [List.append_nil]; exact HI4.out), Lib.hid (All.start _ _)⟩
          case round =>
            clear HI4
            obtain ⟨vq, ⟨Ut, Us, Uv, Un, Ucs⟩, l3, vs, HI, HA⟩ := hrel
            obtain ⟨TB, tb, hUv⟩ := HI.out.slot
            simp only at hUv
            subst hUv
            obtain ⟨c3, z3, l3x⟩ := (HI.out.loc.cell (j := 3) rfl)
            obtain ⟨rA, rcap, _, f8⟩ := rest_form HI.out.loc.st
            have hvl : (us ++ vs).length ≤ 8388608 := by have := HA.out.len; have := HLS.out; have := HWS.out; have := HUS.out; rw [List.length_append]; omega
            have hUn : Un ≤ 8388608 := by have := HI.out.row.2.2.1; simp only at this; omega
            cases l3 with
            | cons y0 l3 =>
              have QV := Lib.hid (argument_take HI.out.loc.drew.st.own HI.out.loc.drew.st.wds HI.out.loc.st.low)
              have hlp : 0 < l3.length + 1 := by omega
              rw [List.length_cons] at f8
              obtain ⟨nv, hnv⟩ : ∃ nv, (us ++ vs).length = nv := ⟨_, rfl⟩
              have HNV := Lib.hid hnv
              rw [hnv] at c3 hvl
              clear hnv
              go_wp2
              go_region_law (first
                | (go_simp; go_at_call 135; (with_reducible refine (QV.out).mono ?_); intro e w2 hT; rcases take_cases hT with ⟨hn, rfl, hg⟩ | ⟨⟨ak, as_, an⟩, l4, v4, hn, rfl, ho, hw, hg⟩; exact ⟨rfl, Meth.bad (HI.out.bes.trans (Beside.of_grown (gr_undrew hg) HI.out.loc.st.high)) (insD_3 (by rw [HOP.out]; simp only; rw [HA0.out]; exact HU.out) (by rw [HOP.out]; simp only; rw [HFO.out]; exact HNM.out) (HA.out.bad (List.cons_ne_nil _ _) hn))⟩; have HL2 := Lib.hid (HI.out.loc.drew.took ho hw hg); have c1x := HL2.out.cell (j := 3) rfl; rw [HNV.out] at c1x; obtain ⟨c1b, z1b, l1b⟩ := c1x; have c1d := al_cell (x := .cells #[i64 ak, str as_, i64 an] 42) c1b; have HN2 := Lib.hid hn; have HO2 := Lib.hid ho; have HW2 := Lib.hid hw; have HG2 := Lib.hid hg; clear hT hn ho hw hg)
                | (refine step_grow (w0 := w2) rfl _ _ 48 (by rfl) base 42 i0 (.agg #[.int .i64 0, .string ⟨#[]⟩, .int .i64 0]) 3 32 Tryz.underlying48 Hi.out Hz0.out Hz1.out Hz2.out rfl (by decide) (by decide) _ HI.out.row.1 HI.out.row.2.1 (by rw [HNV.out]; rfl) HL2.out.onT [i64 ak, str as_, i64 an] _ rfl (by rfl) rfl (ones_arg _ _ _) (by simp only; omega) HL2.out.st.high ?_; intro g cap w3 hG; have HG := Lib.hid hG; have c1y := HL2.out.cell_grew hG (j := 3) rfl; rw [HNV.out] at c1y; obtain ⟨c1c, z1c, l1c⟩ := c1y; clear hG))
              all_goals
                go_wp2
                go_roundw
                case rel => exact ⟨v4, grew ⟨Ut, Us, .slice TB (us ++ vs).length tb, Un, Ucs⟩ (.slice (some ⟨g, 0, none⟩) (Un + 1) cap) [i64 ak, str as_, i64 an], l4, vs ++ [⟨ak, as_, an⟩], Lib.hid (by rw [← List.append_assoc]; exact HI.out.push (x := ⟨ak, as_, an⟩) (by rw [HNV.out]; exact hvl) HO2.out HW2.out HG2.out HG.out), Lib.hid (HA.out.step HN2.out (by have := takeArg_less HN2.out; omega))⟩
                case measure =>
                  have e1 := restLen_of HI.out.loc.st
                  have e2 := restLen_of (HI.out.push (x := ⟨ak, as_, an⟩) (by rw [HNV.out]; exact hvl) HO2.out HW2.out HG2.out HG.out).loc.st
                  have e3 := takeArg_less HN2.out
                  simp only [List.length_cons] at e1 e3
                  rw [e1, e2]
                  omega
            | nil =>
              rw [List.length_nil] at f8
              have f3 := HI.out.loc.st.slot (t := 216) (size := 5) (fb := w1.heap.size) (cs := [str fw, .bool fd, .bool fnb, i64 fl, i64 fm]) List.mem_cons_self (j := 3) rfl
              have f4 := HI.out.loc.st.slot (t := 216) (size := 5) (fb := w1.heap.size) (cs := [str fw, .bool fd, .bool fnb, i64 fl, i64 fm]) List.mem_cons_self (j := 4) rfl
              obtain ⟨nv, hnv⟩ : ∃ nv, (us ++ vs).length = nv := ⟨_, rfl⟩
              have HNV := Lib.hid hnv
              rw [hnv] at c3 hvl
              by_cases hb : (nv : Int) < fl ∨ fm < (nv : Int)
              · have HBAD : Hid (insD p rc.place rc.long rc.over dst x ws = none) := Lib.hid (insD_4 (by rw [HOP.out]; simp only; rw [HA0.out]; exact HU.out) (by rw [HOP.out]; simp only; rw [HFO.out]; exact HNM.out) HA.out.done (by rw [HOP.out]; simp only; rw [HFO.out, hnv]; exact hb))
                clear hnv
                by_cases hb1 : (nv : Int) < fl
                · have g1 : decide ((nv : Int) < fl) = true := decide_eq_true hb1
                  clear hb
                  go_wp2_with (go_at_call 90; (with_reducible refine (refuse_any _ _).mono ?_); rintro e w3 ⟨rfl, rfl⟩)
                  exact ⟨rfl, Meth.bad HI.out.bes HBAD.out⟩
                · have g1 : decide ((nv : Int) < fl) = false := decide_eq_false hb1
                  have g2 : decide (fm < (nv : Int)) = true := decide_eq_true (by omega)
                  clear hb
                  go_wp2_with (go_at_call 90; (with_reducible refine (refuse_any _ _).mono ?_); rintro e w3 ⟨rfl, rfl⟩)
                  exact ⟨rfl, Meth.bad HI.out.bes HBAD.out⟩
              · have g1 : decide ((nv : Int) < fl) = false := decide_eq_false (by omega)
                have g2 : decide (fm < (nv : Int)) = false := decide_eq_false (by omega)
                have HDONE : Hid (insD p rc.place rc.long rc.over dst x ws = some (insP p ⟨(op : Int), dst, nm, us ++ vs, [], []⟩, behindV (op : Int), rc.long + 1, rc.over || decide (1024 < rc.long + 1), [])) := Lib.hid (by
                  have := insD_5 (p := p) (pl := rc.place) (lg := rc.long) (ov := rc.over) HSB.out HMIS.out (by rw [HOP.out]; simp only; rw [HA0.out]; exact HU.out) (by rw [HOP.out]; simp only; rw [HFO.out]; exact HNM.out) HA.out.done (by rw [HOP.out]; simp only; rw [HFO.out, hnv]; exact hb)
                  rw [HOP.out] at this
                  exact this)
                clear hb hnv
                obtain ⟨m, q1, cap1, hlen, hav, hgb, hgl, hm, fR, fV, fB, hz, hqf⟩ := func_path HI.out.loc.st HN0.out
                obtain ⟨m2, q2, cap2, hlen2, hav2, hgb2, hgl2, hm2, fH, fK, hz2, c2, hqb, hc2⟩ := block_path HI.out.loc.st HN0.out HB0.out
                obtain ⟨hrK, hbn⟩ := last_code HI.out.loc.st HN0.out HB0.out
                have fu := HI.out.loc.st.cells.2.2.2.2.1
                rw [hav] at fu
                rw [hav2] at fB
                have QB := Lib.hid (lastBlock_any fu hm fB hm2)
                have hcn : a.K.n ≤ N := HI.out.loc.st.bld.few _ (by simp [Act.l])
                have hr2 : q2 ≠ rb := by have := HI.out.loc.st.mid; omega
                have HR2 := Lib.hid hr2
                have HRK := Lib.hid hrK
                have HCK := Lib.hid fK
                have HZ2 := Lib.hid (hz2 (m2 * 9 + 2))
                have HAV2 := Lib.hid hav2
                have HLL2 := Lib.hid hlen2
                have HBN := Lib.hid hbn
                have HGB2 := Lib.hid hgb2
                have HGL2 := Lib.hid hgl2
                obtain ⟨j0, jz, hj0, hj1, hj2⟩ := info_parts ins_info
                have Hj := Lib.hid jz
                have Hj0 := Lib.hid hj0
                have Hj1 := Lib.hid hj1
                have Hj2 := Lib.hid hj2
                have HC0 := Lib.hid (HI.out.loc.cell (j := 0) rfl).1
                have HC1 := Lib.hid (HI.out.loc.cell (j := 1) rfl).1
                have HC2 := Lib.hid (HI.out.loc.cell (j := 2) rfl).1
                have HC3 := Lib.hid c3
                have HC4 := Lib.hid (HI.out.loc.cell (j := 4) rfl).1
                have HC5 := Lib.hid (HI.out.loc.cell (j := 5) rfl).1
                clear hlen hav hgb hgl hm fR fV fB hz hqf hlen2 hav2 hgb2 hgl2 hm2 fH fK hz2 hqb hc2 hrK hbn fu hr2 jz hj0 hj1 hj2
                go_wp2_with (go_at_call 129; (with_reducible refine (QB.out).mono ?_); rintro e w5 ⟨rfl, hs5⟩; have HS5 := Lib.hid hs5; have o5 := hs5.cell HCK.out; have k0 := hs5.cell HC0.out; have k1 := hs5.cell HC1.out; have k2 := hs5.cell HC2.out; have k3 := hs5.cell HC3.out; have k4 := hs5.cell HC4.out; have k5 := hs5.cell HC5.out; have o5d := al_cell (x := .cells #[i64 op, str dst, str nm, .slice TB nv tb, .slice none 0 0, .slice none 0 0] 52) o5; have HLd := Lib.hid (HI.out.loc.sameH hs5).drew; clear hs5)
                go_region_law (refine step_grow_d (w0 := w5) rfl _ _ 40 (by rfl) base 52 j0 (.agg #[.int .i64 0, .string ⟨#[]⟩, .string ⟨#[]⟩, .slice none 0 0, .slice none 0 0, .slice none 0 0]) 6 112 Tryz.underlying40 Hj.out Hj0.out Hj1.out Hj2.out rfl (by decide) (by decide) a.K HRK.out.1 HRK.out.2.1 (by rfl) (HLd.out.st.on (by simp [Act.l])) [i64 op, str dst, str nm, .slice TB nv tb, .slice none 0 0, .slice none 0 0] _ rfl (by rfl) rfl (ones_ins _ _ _ _ _ _) (by omega) HLd.out.st.high ?_; intro g cap w6 hG; have HGR := Lib.hid hG; have ho2 := own_grown HLd.out.st hG (by simp [Act.l]); obtain ⟨f1c, z1c, l1c⟩ := grew_cell hG (show q2 < w5.drew.heap.size from by have := HGL2.out; have := HS5.out.1; show q2 < w5.heap.size; rw [this]; assumption) (ap_ne (A := [a.C, a.F, a.G, a.E, a.U, a.R, a.V, a.B, a.H]) (B := [a.M, a.O] ++ (lrec 216 5 w1.heap.size [str fw, .bool fd, .bool fnb, i64 fl, i64 fm] :: D)) (x := a.B) HLd.out.st.bld.ap (by simp) (by rw [HAV2.out]; rfl)) (HS5.out.drew.cell HCK.out) (HS5.out.drew.thaw HZ2.out); have HO2 := Lib.hid (own_set (a := ⟨q2, m2 * 9 + 2, none⟩) ho2 HR2.out (.slice (some ⟨g, 0, none⟩) (a.K.n + 1) cap)); clear hG ho2)
                all_goals
                  go_wp2_with (first
                    | (go_at_call 130; (with_reducible refine (lengthen_any HO2.out HLG.out).mono ?_); rintro e w7 ⟨rfl, ho3, hg3⟩; have HO3 := Lib.hid ho3; have HG3 := Lib.hid hg3; obtain ⟨f5, z5, l5⟩ := own_at5 ho3; clear ho3 hg3)
                    | (go_at_call 163; (with_reducible refine (QBH.out _).mono ?_); rintro e w8 ⟨rfl, rfl⟩))
                  go_end0
                  rw [← HNV.out] at HGR
                  have hap := ap_same (loc_sub1 HLd.out.ap) (w' := w5.drew.alloc (.cells #[i64 op, str dst, str nm, .slice TB (us ++ vs).length tb, .slice none 0 0, .slice none 0 0] 52)) fun k _ hk => heap_alloc_old w5.drew _ hk
                  have hB := Build.instr (g0 := q2) (cap := cap2) (op := op) (dst := dst) (name := nm) (args := us ++ vs) (al_build HLd.out.st.bld (.cells #[i64 op, str dst, str nm, .slice TB (us ++ vs).length tb, .slice none 0 0, .slice none 0 0] 52)) HN0.out HB0.out hap (fun _ h => List.mem_cons_of_mem _ h) (.of List.mem_cons_self HI.out.row) HGR.out (by rw [HAV2.out, HBN.out, HLL2.out]) hN
                  rw [HLL2.out, Nat.add_sub_cancel] at hB
                  obtain ⟨b1, b2, b3⟩ := inner_end2 HLd.out.st (HI.out.bes.trans HS5.out.drew.beside) (by simp [Act.l]) HGR.out hB HGB2.out HG3.out
                  exact Meth.ok (p2 := insP p ⟨(op : Int), dst, nm, us ++ vs, [], []⟩) (b1.set (p := ⟨rb, 5, none⟩) (.inr rfl) _) HDONE.out (HLd.out.st.finish (b2.set (p := ⟨rb, 5, none⟩) (.inr rfl) _) (HO3.out.store 5 (i64 (behindV (op : Int)))) (rb_set b3 HH.out.mid 5 _) (rcf := { rc with rest := vq, long := rc.long + 1, over := rc.over || decide (1024 < rc.long + 1), place := behindV (op : Int) }) HLd.out.st.ssa HLd.out.st.c HLd.out.st.g HLd.out.st.e HLd.out.st.u rfl) rfl rfl rfl rfl
  · have hs : stB rc.place 480 = false := by simpa using hs
    have e : insD p rc.place rc.long rc.over dst x ws = none := by unfold insD; rw [if_pos hs]
    rw [e]
    have Q := Lib.hid (stands_no h.own hs)
    clear h hs hF hL e
    go_enter Tryz.func131, Tryz.ntmps131
    go_wp2_with (go_at_call 43; (with_reducible refine (Q.out).mono ?_); rintro e w1 ⟨rfl, rfl⟩)
    exact ⟨rfl, Beside.refl _ _ _, rfl⟩
end Go.Proofs.YtkmndgjabkjafaaGreatDoor.Rd5
