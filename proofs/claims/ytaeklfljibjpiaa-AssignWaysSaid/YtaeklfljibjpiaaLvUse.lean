/-
  Layer 12: what an instruction and an end use, laid into a set.
-/
import Derived.Test.YtaeklfljibjpiaaLvSet
namespace Go.Proofs.Ytaeklfljibjpiaa.Lv12
open Go.RowKit Api Mem Sh8 Go.Maps

def namesA (l : List Arg) : List Wd := (l.filter fun a => decide (a.kind = 1)).map (·.s)
def namesB (l : List Bind) : List Wd := namesA (l.map (·.a))
def namesF (l : List Api.Frame) : List Wd := l.flatMap fun f => namesB f.vars
def namesO (l : List Virt) : List Wd := l.flatMap fun o => namesA o.vals
/-- what an instruction uses. -/
def usesI (x : Instr) : List Wd := namesA x.args ++ (namesF x.frames ++ namesO x.objs)
/-- what an end uses. -/
def usesT (t : Term) : List Wd := if t.kind = 2 ∨ t.kind = 3 then namesA [t.a] else []
theorem take_at {α : Type} {l : List α} {k : Nat} {x : α} (h : l[k]? = some x) : l.take (k + 1) = l.take k ++ [x] := by
  obtain ⟨h1, h2⟩ := List.getElem?_eq_some_iff.1 h
  rw [List.take_succ_eq_append_getElem h1, h2]
theorem namesA_app (l r : List Arg) : namesA (l ++ r) = namesA l ++ namesA r := by simp [namesA]
theorem namesA_next {l : List Arg} {k : Nat} {x : Arg} (h : l[k]? = some x) : namesA (l.take (k + 1)) = namesA (l.take k) ++ namesA [x] := by rw [take_at h, namesA_app]
theorem namesB_next {l : List Bind} {k : Nat} {x : Bind} (h : l[k]? = some x) : namesB (l.take (k + 1)) = namesB (l.take k) ++ namesA [x.a] := by
  unfold namesB
  rw [take_at h, List.map_append, namesA_app]
  rfl
theorem namesF_next {l : List Api.Frame} {k : Nat} {x : Api.Frame} (h : l[k]? = some x) : namesF (l.take (k + 1)) = namesF (l.take k) ++ namesB x.vars := by
  unfold namesF
  rw [take_at h, List.flatMap_append]
  simp
theorem namesO_next {l : List Virt} {k : Nat} {x : Virt} (h : l[k]? = some x) : namesO (l.take (k + 1)) = namesO (l.take k) ++ namesA x.vals := by
  unfold namesO
  rw [take_at h, List.flatMap_append]
  simp
theorem namesA_mem {l : List Arg} {x : Arg} (h : x ∈ l) : ∀ y ∈ namesA [x], y ∈ namesA l := by
  intro y hy
  unfold namesA at *
  rw [List.mem_map] at *
  obtain ⟨a, ha, e⟩ := hy
  rw [List.mem_filter] at ha
  obtain ⟨h1, h2⟩ := ha
  rw [List.mem_singleton] at h1
  subst h1
  exact ⟨a, List.mem_filter.2 ⟨h, h2⟩, e⟩
/-- what a call leaves that writes the set g alone. -/
def Put (U : List Wd) (w : World) (g : Nat) (S : Wd → Bool) (e : Ending) (w' : World) : Prop := e = .returned (.tuple #[]) ∧ SetO U w' g S ∧ w.grownBy w' (some g)
theorem grown_refl (w : World) (row : Option Nat) : w.grownBy w row := ⟨rfl, rfl, rfl, Nat.le_refl _, fun _ _ _ => rfl⟩
theorem grown_trans {a b c : World} {g : Nat} (h : a.grownBy b (some g)) (k : b.grownBy c (some g)) : a.grownBy c (some g) := h.andThen k fun j e => .inr e
theorem grown_but {a b : World} (h : a.grownBy b none) (row : Option Nat) : a.grownBy b row := ⟨h.os, h.tape, h.output, h.size, fun i hi _ => h.block i hi (by simp)⟩
set_option maxRecDepth 100000 in
set_option maxHeartbeats 4000000 in
theorem use_any {U : List Wd} (hU : UOk U) {w : World} {g : Nat} {S : Wd → Bool} (h : SetO U w g S) (a : Arg) (hx : ∀ x ∈ namesA [a], x ∈ U) :
    Calls Try.prog 74 #[.map (some g), .agg #[i64 a.kind, str a.s, i64 a.n]] w (Put U w g (orS S (namesA [a]))) := by
  by_cases hk : a.kind = 1
  · have e0 : (a.kind == 1) = true := by simpa using hk
    have en : namesA [a] = [a.s] := by simp [namesA, hk]
    have HS : orS S (namesA [a]) = addS S a.s := by rw [en]; exact funext fun y => by simp [orS, addS]
    rw [HS]
    have hin := hx a.s (by rw [en]; simp)
    have HA := Lib.hid (fun (w1 : World) (h1 : SetO U w1 g S) => add_any hU h1 a.s hin)
    have HG := Lib.hid (fun o => (show SetO U (w.alloc o) g S from h.alloc o))
    clear hk en hx HS h hin
    go_enter Try.func74, Try.ntmps74
    go_wp2_with fail
    refine (HA.out _ (HG.out _)).mono ?_
    rintro e w5 ⟨rfl, h5, g5⟩
    have H5 := Lib.hid h5
    have G5 := Lib.hid (grown_trans (World.grownBy_alloc w _ (some g)) g5)
    clear h5 g5
    go_wp2_with fail
    go_end0
    exact ⟨rfl, H5.out, G5.out⟩
  · have e0 : (a.kind == 1) = false := by simpa using hk
    have en : namesA [a] = [] := by simp [namesA, hk]
    rw [en, orS_nil]
    have HG := Lib.hid h
    clear hk en hx h
    go_enter Try.func74, Try.ntmps74
    go_wp2_with fail
    go_end0
    exact ⟨rfl, HG.out.alloc _, World.grownBy_alloc w _ (some g)⟩
theorem own_kept {W W' : World} {b g : Nat} {t : TypeId} {cs : List Value} (h : Mem.Own W b t cs) (hg : W.grownBy W' (some g)) (hne : b ≠ g) : Mem.Own W' b t cs := (hg.block b h.lt (by simpa using hne)).trans h
theorem still_g {w w' : World} {lo hi g : Nat} (h : w.grownBy w' (some g)) (hh : hi ≤ w.heap.size) (hg : hi ≤ g) : Still lo hi lo hi w w' := ⟨fun k _ hk => h.block k (by omega) (fun e => by simp only [Option.some.injEq] at e; omega), Nat.le_refl _, Nat.le_refl _⟩
/-- the cells of one thing of a row. -/
theorem row_at {α : Type} {lo hi : Nat} {w : World} {size n cap k : Nat} {A : Option Addr} {P : List Value → α → Prop} {l : List α} {x : α} (h : Row lo hi w size P (.slice A n cap) l) (hx : l[k]? = some x) : ∃ b o, A = some ⟨b, o, none⟩ ∧ b < hi ∧ ∃ cs, cs.length = size ∧ (∀ j u, cs[j]? = some u → w.cell? ⟨b, o + k * size + j, none⟩ = some u) ∧ P cs x := by
  obtain ⟨b, off, hn, hm, ha, hc⟩ := h.get
  have hi := (List.getElem?_eq_some_iff.1 hx).1
  obtain ⟨e, h1, h2⟩ := ha (by omega)
  exact ⟨b, off, e, h2, hc k x hx⟩
theorem cells_g {w w' : World} {hi g b k : Nat} {cs : List Value} (h : w.grownBy w' (some g)) (hh : hi ≤ w.heap.size) (hg : hi ≤ g) (hb : b < hi) (hc : ∀ j u, cs[j]? = some u → w.cell? ⟨b, k + j, none⟩ = some u) : ∀ j u, cs[j]? = some u → w'.cell? ⟨b, k + j, none⟩ = some u :=
  fun j u hj => (World.cell?_of_block (w := w) (h.block b (by omega) (fun e => by simp only [Option.some.injEq] at e; omega))).trans (hc j u hj)
theorem usesI_args {x : Instr} {y : Wd} (h : y ∈ namesA x.args) : y ∈ usesI x := List.mem_append_left _ h
theorem usesI_frames {x : Instr} {f : Api.Frame} (hf : f ∈ x.frames) {y : Wd} (h : y ∈ namesB f.vars) : y ∈ usesI x := List.mem_append_right _ (List.mem_append_left _ (List.mem_flatMap.2 ⟨f, hf, h⟩))
theorem usesI_objs {x : Instr} {f : Virt} (hf : f ∈ x.objs) {y : Wd} (h : y ∈ namesA f.vals) : y ∈ usesI x := List.mem_append_right _ (List.mem_append_right _ (List.mem_flatMap.2 ⟨f, hf, h⟩))
theorem orS_more (S : Wd → Bool) (l r m : List Wd) (e : m = l ++ r) : orS (orS S l) r = orS S m := by rw [e, orS_app]
set_option maxRecDepth 100000 in
set_option maxHeartbeats 8000000 in
theorem useAll_any {U : List Wd} (hU : UOk U) (lo hi : Nat) {w : World} {g : Nat} {S : Wd → Bool} (h : SetO U w g S) (cs : List Value) (x : Instr) (hc : InstrC lo hi w cs x) (hh : hi ≤ w.heap.size) (hg : hi ≤ g) (hx : ∀ y ∈ usesI x, y ∈ U) :
    Calls Try.prog 49 #[.map (some g), .agg cs.toArray] w (Put U w g (orS S (usesI x))) := by
  obtain ⟨v1, v2, v3, rfl, h1, h2, h3⟩ := hc
  obtain ⟨A1, k1, rfl⟩ := Row.form h1
  obtain ⟨A2, k2, rfl⟩ := Row.form h2
  obtain ⟨A3, k3, rfl⟩ := Row.form h3
  have hl1 : x.args.length ≤ 4611686018427387903 := by obtain ⟨_, _, _, h, _⟩ := Row.get h1; exact h
  have hl2 : x.frames.length ≤ 4611686018427387903 := by obtain ⟨_, _, _, h, _⟩ := Row.get h2; exact h
  have hl3 : x.objs.length ≤ 4611686018427387903 := by obtain ⟨_, _, _, h, _⟩ := Row.get h3; exact h
  have H1 := Lib.hid h1
  have H2 := Lib.hid h2
  have H3 := Lib.hid h3
  have HX := Lib.hid hx
  have HS0 := Lib.hid (h.alloc (.cells #[i64 x.op, str x.dst, str x.name, .slice A1 x.args.length k1, .slice A2 x.frames.length k2, .slice A3 x.objs.length k3] 51))
  have HL := Lib.hid h.lt
  clear h1 h2 h3 hx h
  go_enter Try.func49, Try.ntmps49
  go_wp2_with fail
  have HB0 := Lib.hid (Mem.Own.made w 51 [i64 x.op, str x.dst, str x.name, .slice A1 x.args.length k1, .slice A2 x.frames.length k2, .slice A3 x.objs.length k3])
  have HG0 := Lib.hid (World.grownBy_alloc w (.cells #[i64 x.op, str x.dst, str x.name, .slice A1 x.args.length k1, .slice A2 x.frames.length k2, .slice A3 x.objs.length k3] 51) (some g))
  go_loopw [16] (fun i wr => ∃ k : Nat, k ≤ x.args.length ∧ i = .int .i64 k ∧ Hid (SetO U wr g (orS S (namesA (x.args.take k)))) ∧ Hid (Mem.Own wr w.heap.size 51 [i64 x.op, str x.dst, str x.name, .slice A1 x.args.length k1, .slice A2 x.frames.length k2, .slice A3 x.objs.length k3]) ∧ Hid (w.grownBy wr (some g))) (fun i _ => x.args.length - (intOf i).toNat)
  case atStart => exact ⟨0, Nat.zero_le _, rfl, Lib.hid (by rw [show namesA (x.args.take 0) = [] from rfl, orS_nil]; exact HS0.out), HB0, HG0⟩
  case round =>
  obtain ⟨k, hk, rfl, HS, HB, HG⟩ := hrel
  by_cases hlt : k < x.args.length
  · obtain ⟨y, hy⟩ : ∃ y, x.args[k]? = some y := ⟨_, List.getElem?_eq_getElem hlt⟩
    have q := row_at (Args.move (still_g HG.out hh hg) H1.out) hy
    obtain ⟨b, o, rfl, hb, cs, hcl, hcs, rfl⟩ := q
    obtain ⟨c0, c1, c2⟩ := at3 hcs
    have HQ := Lib.hid (fun (w1 : World) (h1 : SetO U w1 g (orS S (namesA (x.args.take k)))) => use_any hU h1 y (fun z hz => HX.out z (usesI_args (namesA_mem (List.mem_of_getElem? hy) z hz))))
    have HN := Lib.hid (namesA_next hy)
    clear hy hcs hcl
    go_wp2_with fail
    have HL5 := Lib.hid (HS.out.alloc (.cells #[i64 y.kind, str y.s, i64 y.n] 38))
    refine (HQ.out _ HL5.out).mono ?_
    rintro e w5 ⟨rfl, h5, g5⟩
    have G5 := Lib.hid (grown_trans (World.grownBy_alloc wr _ (some g)) g5)
    have H5 := Lib.hid h5
    clear h5 g5
    go_wp2_with fail
    go_roundw
    case rel => exact ⟨k + 1, by omega, by go_num, Lib.hid (H5.out.same fun z => by rw [orS_app, HN.out]), Lib.hid (own_kept HB.out G5.out (by have := HL.out; omega)), Lib.hid (grown_trans HG.out G5.out)⟩
    case measure => simp [intOf]; omega
  · obtain rfl : k = x.args.length := by omega
    have HS1 := Lib.hid (show SetO U wr g (orS S (namesA x.args)) by have := HS.out; rwa [List.take_length] at this)
    have HS1' := Lib.hid (show SetO U wr g (orS (orS S (namesA x.args)) (namesF (x.frames.take 0))) from by rw [show namesF (x.frames.take 0) = [] from rfl, orS_nil]; exact HS1.out)
    have n4 := (HB.out.cell 4).trans rfl
    have n5 := (HB.out.cell 5).trans rfl
    clear HS
    go_wp2_with fail
    go_loopw [27] (fun i wr => ∃ k : Nat, k ≤ x.frames.length ∧ i = .int .i64 k ∧ Hid (SetO U wr g (orS (orS S (namesA x.args)) (namesF (x.frames.take k)))) ∧ Hid (Mem.Own wr w.heap.size 51 [i64 x.op, str x.dst, str x.name, .slice A1 x.args.length k1, .slice A2 x.frames.length k2, .slice A3 x.objs.length k3]) ∧ Hid (w.grownBy wr (some g))) (fun i _ => x.frames.length - (intOf i).toNat)
    case atStart => exact ⟨0, Nat.zero_le _, rfl, HS1', HB, HG⟩
    case round =>
    clear n4 n5 HS1 HS1' HB HG
    obtain ⟨k, hk, rfl, HS, HB, HG⟩ := hrel
    by_cases hlt : k < x.frames.length
    · obtain ⟨y, hy⟩ : ∃ y, x.frames[k]? = some y := ⟨_, List.getElem?_eq_getElem hlt⟩
      obtain ⟨b, o, rfl, hb, cs, hcl, hcs, u, rfl, hbi⟩ := row_at H2.out hy
      obtain ⟨c0, c1, c2, c3⟩ := at4 (cells_g HG.out hh hg hb hcs)
      obtain ⟨A4, k4, rfl⟩ := Row.form hbi
      have hl4 : y.vars.length ≤ 4611686018427387903 := by obtain ⟨_, _, _, h, _⟩ := Row.get hbi; exact h
      have HBI := Lib.hid hbi
      have HY := Lib.hid hy
      have n4 := (HB.out.cell 4).trans rfl
      have HS2 := Lib.hid (show SetO U wr g (orS (orS (orS S (namesA x.args)) (namesF (x.frames.take k))) (namesB (y.vars.take 0))) from by rw [show namesB (y.vars.take 0) = [] from rfl, orS_nil]; exact HS.out)
      clear hy hcs hcl hbi
      go_wp2_with fail
      go_loopw [37] (fun i wr => ∃ j : Nat, j ≤ y.vars.length ∧ i = .int .i64 j ∧ Hid (SetO U wr g (orS (orS (orS S (namesA x.args)) (namesF (x.frames.take k))) (namesB (y.vars.take j)))) ∧ Hid (Mem.Own wr w.heap.size 51 [i64 x.op, str x.dst, str x.name, .slice A1 x.args.length k1, .slice (some ⟨b, o, none⟩) x.frames.length k2, .slice A3 x.objs.length k3]) ∧ Hid (w.grownBy wr (some g))) (fun i _ => y.vars.length - (intOf i).toNat)
      case atStart => exact ⟨0, Nat.zero_le _, rfl, HS2, HB, HG⟩
      case round =>
      clear HS2 HS HB HG n4 c0 c1 c2 c3
      obtain ⟨j, hj, rfl, HS3, HB, HG⟩ := hrel
      by_cases hlj : j < y.vars.length
      · obtain ⟨z, hz⟩ : ∃ z, y.vars[j]? = some z := ⟨_, List.getElem?_eq_getElem hlj⟩
        obtain ⟨b4, o4, rfl, hb4, cs, hcl, hcs, rfl⟩ := row_at HBI.out hz
        obtain ⟨m0, m1, m2, m3⟩ := at4 (cells_g HG.out hh hg hb4 hcs)
        have HQ := Lib.hid (fun (w1 : World) (h1 : SetO U w1 g (orS (orS (orS S (namesA x.args)) (namesF (x.frames.take k))) (namesB (y.vars.take j)))) => use_any hU h1 z.a (fun z' hz' => HX.out z' (usesI_frames (List.mem_of_getElem? HY.out) (namesA_mem (List.mem_map.2 ⟨z, List.mem_of_getElem? hz, rfl⟩) z' hz'))))
        have HN := Lib.hid (namesB_next hz)
        have HL5 := Lib.hid (HS3.out.alloc (.cells #[str z.name, i64 z.a.kind, str z.a.s, i64 z.a.n] 142))
        have HG5 := Lib.hid (World.grownBy_alloc wr (.cells #[str z.name, i64 z.a.kind, str z.a.s, i64 z.a.n] 142) (some g))
        clear hz hcs hcl
        go_wp2_with fail
        refine (HQ.out _ HL5.out).mono ?_
        rintro e w5 ⟨rfl, h5, g5⟩
        have G5 := Lib.hid (grown_trans HG5.out g5)
        have H5 := Lib.hid h5
        clear h5 g5
        go_wp2_with fail
        go_roundw
        case rel => exact ⟨j + 1, by omega, by go_num, Lib.hid (H5.out.same fun z => by rw [orS_app, HN.out]), Lib.hid (own_kept HB.out G5.out (by have := HL.out; omega)), Lib.hid (grown_trans HG.out G5.out)⟩
        case measure => simp [intOf]; omega
      · obtain rfl : j = y.vars.length := by omega
        have HS4 := Lib.hid (show SetO U wr g (orS (orS S (namesA x.args)) (namesF (x.frames.take (k + 1)))) by
          have h := HS3.out
          rw [List.take_length] at h
          exact h.same fun z => by rw [namesF_next HY.out, ← orS_app])
        clear HS3
        go_wp2_with fail
        go_roundw
        case rel => exact ⟨k + 1, by omega, by go_num, HS4, HB, HG⟩
        case measure => simp [intOf]; omega
    · obtain rfl : k = x.frames.length := by omega
      have HS1 := Lib.hid (show SetO U wr g (orS (orS S (namesA x.args)) (namesF x.frames)) by have := HS.out; rwa [List.take_length] at this)
      have HS1' := Lib.hid (show SetO U wr g (orS (orS (orS S (namesA x.args)) (namesF x.frames)) (namesO (x.objs.take 0))) from by rw [show namesO (x.objs.take 0) = [] from rfl, orS_nil]; exact HS1.out)
      have n5 := (HB.out.cell 5).trans rfl
      clear HS
      go_wp2_with fail
      go_loopw [50] (fun i wr => ∃ k : Nat, k ≤ x.objs.length ∧ i = .int .i64 k ∧ Hid (SetO U wr g (orS (orS (orS S (namesA x.args)) (namesF x.frames)) (namesO (x.objs.take k)))) ∧ Hid (Mem.Own wr w.heap.size 51 [i64 x.op, str x.dst, str x.name, .slice A1 x.args.length k1, .slice A2 x.frames.length k2, .slice A3 x.objs.length k3]) ∧ Hid (w.grownBy wr (some g))) (fun i _ => x.objs.length - (intOf i).toNat)
      case atStart => exact ⟨0, Nat.zero_le _, rfl, HS1', HB, HG⟩
      case round =>
      clear n5 HS1 HS1' HB HG
      obtain ⟨k, hk, rfl, HS, HB, HG⟩ := hrel
      by_cases hlt : k < x.objs.length
      · obtain ⟨y, hy⟩ : ∃ y, x.objs[k]? = some y := ⟨_, List.getElem?_eq_getElem hlt⟩
        obtain ⟨b, o, rfl, hb, cs, hcl, hcs, u, rfl, hbi⟩ := row_at H3.out hy
        obtain ⟨c0, c1⟩ := at2 (cells_g HG.out hh hg hb hcs)
        obtain ⟨A4, k4, rfl⟩ := Row.form hbi
        have hl4 : y.vals.length ≤ 4611686018427387903 := by obtain ⟨_, _, _, h, _⟩ := Row.get hbi; exact h
        have HBI := Lib.hid hbi
        have HY := Lib.hid hy
        have HS2 := Lib.hid (show SetO U (wr.alloc (.cells #[str y.cls, .slice A4 y.vals.length k4] 144)) g (orS (orS (orS (orS S (namesA x.args)) (namesF x.frames)) (namesO (x.objs.take k))) (namesA (y.vals.take 0))) from by rw [show namesA (y.vals.take 0) = [] from rfl, orS_nil]; exact HS.out.alloc _)
        have HG2 := Lib.hid (grown_trans HG.out (World.grownBy_alloc wr (.cells #[str y.cls, .slice A4 y.vals.length k4] 144) (some g)))
        have HB2 := Lib.hid (HB.out.alloc (.cells #[str y.cls, .slice A4 y.vals.length k4] 144))
        clear hy hcs hcl hbi
        go_wp2_with fail
        go_loopw [57] (fun i wr => ∃ j : Nat, j ≤ y.vals.length ∧ i = .int .i64 j ∧ Hid (SetO U wr g (orS (orS (orS (orS S (namesA x.args)) (namesF x.frames)) (namesO (x.objs.take k))) (namesA (y.vals.take j)))) ∧ Hid (Mem.Own wr w.heap.size 51 [i64 x.op, str x.dst, str x.name, .slice A1 x.args.length k1, .slice A2 x.frames.length k2, .slice (some ⟨b, o, none⟩) x.objs.length k3]) ∧ Hid (w.grownBy wr (some g))) (fun i _ => y.vals.length - (intOf i).toNat)
        case atStart => exact ⟨0, Nat.zero_le _, rfl, HS2, HB2, HG2⟩
        case round =>
        clear HS2 HS HB HG HB2 HG2 c0 c1
        obtain ⟨j, hj, rfl, HS3, HB, HG⟩ := hrel
        by_cases hlj : j < y.vals.length
        · obtain ⟨z, hz⟩ : ∃ z, y.vals[j]? = some z := ⟨_, List.getElem?_eq_getElem hlj⟩
          obtain ⟨b4, o4, rfl, hb4, cs, hcl, hcs, rfl⟩ := row_at HBI.out hz
          obtain ⟨m0, m1, m2⟩ := at3 (cells_g HG.out hh hg hb4 hcs)
          have HQ := Lib.hid (fun (w1 : World) (h1 : SetO U w1 g (orS (orS (orS (orS S (namesA x.args)) (namesF x.frames)) (namesO (x.objs.take k))) (namesA (y.vals.take j)))) => use_any hU h1 z (fun z' hz' => HX.out z' (usesI_objs (List.mem_of_getElem? HY.out) (namesA_mem (List.mem_of_getElem? hz) z' hz'))))
          have HN := Lib.hid (namesA_next hz)
          have HL5 := Lib.hid (HS3.out.alloc (.cells #[i64 z.kind, str z.s, i64 z.n] 38))
          have HG5 := Lib.hid (World.grownBy_alloc wr (.cells #[i64 z.kind, str z.s, i64 z.n] 38) (some g))
          clear hz hcs hcl
          go_wp2_with fail
          refine (HQ.out _ HL5.out).mono ?_
          rintro e w5 ⟨rfl, h5, g5⟩
          have G5 := Lib.hid (grown_trans HG5.out g5)
          have H5 := Lib.hid h5
          clear h5 g5
          go_wp2_with fail
          go_roundw
          case rel => exact ⟨j + 1, by omega, by go_num, Lib.hid (H5.out.same fun z => by rw [orS_app, HN.out]), Lib.hid (own_kept HB.out G5.out (by have := HL.out; omega)), Lib.hid (grown_trans HG.out G5.out)⟩
          case measure => simp [intOf]; omega
        · obtain rfl : j = y.vals.length := by omega
          have HS4 := Lib.hid (show SetO U wr g (orS (orS (orS S (namesA x.args)) (namesF x.frames)) (namesO (x.objs.take (k + 1)))) by
            have h := HS3.out
            rw [List.take_length] at h
            exact h.same fun z => by rw [namesO_next HY.out, ← orS_app])
          clear HS3
          go_wp2_with fail
          go_roundw
          case rel => exact ⟨k + 1, by omega, by go_num, HS4, HB, HG⟩
          case measure => simp [intOf]; omega
      · obtain rfl : k = x.objs.length := by omega
        have HS1 := Lib.hid (show SetO U wr g (orS (orS (orS S (namesA x.args)) (namesF x.frames)) (namesO x.objs)) by have := HS.out; rwa [List.take_length] at this)
        clear HS
        go_wp2_with fail
        go_end0
        exact ⟨rfl, HS1.out.same fun z => (by rw [orS_app, orS_app]; simp [usesI]), HG.out⟩
set_option maxRecDepth 100000 in
set_option maxHeartbeats 4000000 in
theorem useEnd_any {U : List Wd} (hU : UOk U) {w : World} {g : Nat} {S : Wd → Bool} (h : SetO U w g S) (t : Term) (v : Value) (hx : ∀ x ∈ usesT t, x ∈ U) :
    Calls Try.prog 75 #[.map (some g), .agg #[i64 t.kind, i64 t.a.kind, str t.a.s, i64 t.a.n, v, i64 t.n]] w (Put U w g (orS S (usesT t))) := by
  by_cases hk : t.kind = 2 ∨ t.kind = 3
  · have en : usesT t = namesA [t.a] := by unfold usesT; rw [if_pos hk]
    rw [en] at hx
    rw [en]
    have HA := Lib.hid (fun (w1 : World) (h1 : SetO U w1 g S) => use_any hU h1 t.a hx)
    have HG := Lib.hid (fun o => (show SetO U (w.alloc o) g S from h.alloc o))
    clear en hx h
    go_enter Try.func75, Try.ntmps75
    rcases hk with hk | hk
    · have e1 : (t.kind == 2) = true := by simpa using hk
      have e2 : (t.kind == 3) = false := by simp; omega
      clear hk
      go_wp2_with fail
      refine (HA.out _ (HG.out _)).mono ?_
      rintro e w5 ⟨rfl, h5, g5⟩
      have H5 := Lib.hid h5
      have G5 := Lib.hid (grown_trans (World.grownBy_alloc w _ (some g)) g5)
      clear h5 g5
      go_wp2_with fail
      go_end0
      exact ⟨rfl, H5.out, G5.out⟩
    · have e1 : (t.kind == 2) = false := by simp; omega
      have e2 : (t.kind == 3) = true := by simpa using hk
      clear hk
      go_wp2_with fail
      refine (HA.out _ (HG.out _)).mono ?_
      rintro e w5 ⟨rfl, h5, g5⟩
      have H5 := Lib.hid h5
      have G5 := Lib.hid (grown_trans (World.grownBy_alloc w _ (some g)) g5)
      clear h5 g5
      go_wp2_with fail
      go_end0
      exact ⟨rfl, H5.out, G5.out⟩
  · have en : usesT t = [] := by unfold usesT; rw [if_neg hk]
    rw [en, orS_nil]
    have e1 : (t.kind == 2) = false := by simp; omega
    have e2 : (t.kind == 3) = false := by simp; omega
    have HG := Lib.hid h
    clear hk en hx h
    go_enter Try.func75, Try.ntmps75
    go_wp2_with fail
    go_end0
    exact ⟨rfl, HG.out.alloc _, World.grownBy_alloc w _ (some g)⟩
theorem del_set {U : List Wd} {w w9 : World} {g n : Nat} {S : Wd → Bool} {D : DataW Unit} {x : Wd} (h : SetO U w g S) (h2 : ∀ x, has D (kS x) = S x) (ho : w9.ownsMap Try.prog 9 unitElem g n (D.del (kS x))) : SetO U w9 g (delS S x) := by
  refine ⟨⟨_, own_size ho, fun y => ?_⟩, fun y hy => ?_⟩
  · unfold delS
    by_cases e : y = x
    · subst e
      rw [has_del_same]
      simp
    · rw [has_del_other (kS_ne e), h2]
      simp [e]
  · unfold delS at hy
    rw [Bool.and_eq_true] at hy
    exact h.2 y hy.1
/-- what goBack leaves. -/
def backI (x : Instr) (S : Wd → Bool) : Wd → Bool := orS (if x.dst = [] then S else delS S x.dst) (usesI x)
set_option maxRecDepth 100000 in
set_option maxHeartbeats 4000000 in
theorem goBack_any {U : List Wd} (hU : UOk U) (lo hi : Nat) {w : World} {g : Nat} {S : Wd → Bool} (h : SetO U w g S) (cs : List Value) (x : Instr) (hc : InstrC lo hi w cs x) (hh : hi ≤ w.heap.size) (hg : hi ≤ g) (hx : ∀ y ∈ usesI x, y ∈ U) (hd : x.dst.length ≤ 140737488351232) :
    Calls Try.prog 27 #[.map (some g), .agg cs.toArray] w (Put U w g (backI x S)) := by
  have HC := Lib.hid hc
  obtain ⟨v1, v2, v3, rfl, h1, h2, h3⟩ := hc
  clear h1 h2 h3
  have HU := Lib.hid (fun (w1 : World) (S1 : Wd → Bool) (g1 : w.grownBy w1 (some g)) (hs : SetO U w1 g S1) => useAll_any hU lo hi hs _ x (InstrC.move (still_g g1 hh hg) HC.out) (Nat.le_trans hh g1.size) hg hx)
  by_cases hk : x.dst = []
  · have e1 : (!x.dst.isEmpty) = false := by rw [hk]; rfl
    have HS := Lib.hid h
    unfold backI
    rw [if_pos hk]
    clear h hx hd hk
    go_enter Try.func27, Try.ntmps27
    go_wp2_with fail
    refine (HU.out _ S (World.grownBy_alloc w _ (some g)) (HS.out.alloc _)).mono ?_
    rintro e w5 ⟨rfl, h5, g5⟩
    have H5 := Lib.hid h5
    have G5 := Lib.hid (grown_trans (World.grownBy_alloc w _ (some g)) g5)
    clear h5 g5
    go_wp2_with fail
    go_end0
    exact ⟨rfl, H5.out, G5.out⟩
  · have e1 : (!x.dst.isEmpty) = true := by cases hx2 : x.dst with
      | nil => exact absurd hx2 hk
      | cons => rfl
    obtain ⟨D, h1, h2, _⟩ := h.keys
    obtain ⟨w9, hrun, ho9, ht9⟩ := drop_at (U := U) lawS Try.underlying69 (h1.alloc (.cells #[i64 x.op, str x.dst, str x.name, v1, v2, v3] 51)) (key_at hd) 0
    have HS9 := Lib.hid (del_set h h2 ho9)
    have HG9 := Lib.hid (grown_trans (World.grownBy_alloc w _ (some g)) ht9.grown)
    have hbx := own_kept (Mem.Own.made w 51 [i64 x.op, str x.dst, str x.name, v1, v2, v3]) ht9.grown (by have := h.lt; omega)
    have n0 := (hbx.cell 0).trans rfl
    have n1 := (hbx.cell 1).trans rfl
    have n2 := (hbx.cell 2).trans rfl
    have n3 := (hbx.cell 3).trans rfl
    have n4 := (hbx.cell 4).trans rfl
    have n5 := (hbx.cell 5).trans rfl
    unfold backI
    rw [if_neg hk]
    clear hx h1 h2 h ho9 ht9 hbx
    go_enter Try.func27, Try.ntmps27
    go_wp2_with fail
    refine (HU.out _ _ HG9.out HS9.out).mono ?_
    rintro e w5 ⟨rfl, h5, g5⟩
    have H5 := Lib.hid h5
    have G5 := Lib.hid (grown_trans HG9.out g5)
    clear h5 g5
    go_wp2_with fail
    go_end0
    exact ⟨rfl, H5.out, G5.out⟩
end Go.Proofs.Ytaeklfljibjpiaa.Lv12
