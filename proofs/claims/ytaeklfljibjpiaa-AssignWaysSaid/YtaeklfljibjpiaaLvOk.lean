/-
  Layer 12: of a little function of right shape all is at hand that its liveness asks. Plain.
-/
import Derived.Test.YtaeklfljibjpiaaLvAtG
import Derived.Test.YtaeklfljibjpiaaLvFew
import Derived.Test.YtaeklfljibjpiaaOpenP
namespace Go.Proofs.Ytaeklfljibjpiaa.Lv12
open Go.RowKit Api Mem Sh8 Go.Maps

def namesI (i : Instr) : List Wd := i.dst :: usesI i
def namesPh (p : Phi) : List Wd := p.dst :: p.ins.flatMap fun q => namesA [q.a]
def namesBl (b : Api.Block) : List Wd := usesT b.fin ++ (b.code.flatMap namesI ++ b.phis.flatMap namesPh)
/-- all names of variables in blocks. -/
def allN (bl : List Api.Block) : List Wd := bl.flatMap namesBl
theorem len_flat {α : Type} {g : α → List Wd} {c : α → Nat} : ∀ {l : List α}, (∀ x ∈ l, (g x).length ≤ c x) → (l.flatMap g).length ≤ Few6.sumOf c l
  | [], _ => by simp
  | a :: l, h => by
    have h1 := len_flat (l := l) fun x hx => h x (by simp [hx])
    have h2 := h a (by simp)
    simp only [List.flatMap_cons, List.length_append, Few6.sumOf, List.map_cons, List.sum_cons] at h1 ⊢
    omega
theorem len_namesA (l : List Arg) : (namesA l).length ≤ l.length := by
  unfold namesA
  rw [List.length_map]
  exact List.length_filter_le _ _
theorem len_sum {α : Type} {c : α → Nat} {l : List α} (h : ∀ x, 1 ≤ c x) : l.length ≤ Few6.sumOf c l := Few6.sum_len c l h
theorem len_usesI (i : Instr) : (namesI i).length ≤ Few6.cInstr i := by
  have h1 := len_namesA i.args
  have h2 : (namesF i.frames).length ≤ Few6.sumOf Few6.cFrame i.frames := by
    refine len_flat fun f _ => ?_
    have q1 := len_namesA (f.vars.map (·.a))
    rw [List.length_map] at q1
    have q2 : f.vars.length ≤ Few6.sumOf Few6.cBind f.vars := len_sum fun x => by unfold Few6.cBind; omega
    unfold Few6.cFrame namesB
    omega
  have h3 : (namesO i.objs).length ≤ Few6.sumOf Few6.cVirt i.objs := by
    refine len_flat fun f _ => ?_
    have q1 := len_namesA f.vals
    unfold Few6.cVirt Few6.cArgs
    omega
  unfold namesI usesI Few6.cInstr Few6.cArgs
  simp only [List.length_cons, List.length_append]
  omega
theorem len_namesPh (p : Phi) : (namesPh p).length ≤ Few6.cPhi p := by
  have h : (p.ins.flatMap fun q => namesA [q.a]).length ≤ Few6.sumOf Few6.cBind p.ins := by
    refine len_flat fun q _ => ?_
    have q1 := len_namesA [q.a]
    unfold Few6.cBind
    simp only [List.length_singleton] at q1
    omega
  unfold namesPh Few6.cPhi
  simp only [List.length_cons]
  omega
theorem len_namesBl (b : Api.Block) : (namesBl b).length ≤ Few6.cBlock b := by
  have h1 : (usesT b.fin).length ≤ 1 := by
    unfold usesT
    split
    · exact len_namesA _
    · simp
  have h2 : (b.code.flatMap namesI).length ≤ Few6.sumOf Few6.cInstr b.code := len_flat fun i _ => len_usesI i
  have h3 : (b.phis.flatMap namesPh).length ≤ Few6.sumOf Few6.cPhi b.phis := len_flat fun p _ => len_namesPh p
  unfold namesBl Few6.cBlock
  simp only [List.length_append]
  omega
theorem len_allN (f : Api.Func) : (allN f.blocks).length ≤ Few6.cFunc f := by
  have h : (allN f.blocks).length ≤ Few6.sumOf Few6.cBlock f.blocks := len_flat fun b _ => len_namesBl b
  unfold Few6.cFunc
  omega
theorem mem_namesA {l : List Arg} {y : Wd} : y ∈ namesA l ↔ ∃ a ∈ l, a.kind = 1 ∧ a.s = y := by
  unfold namesA
  rw [List.mem_map]
  exact ⟨fun ⟨a, h, e⟩ => ⟨a, (List.mem_filter.1 h).1, of_decide_eq_true (List.mem_filter.1 h).2, e⟩, fun ⟨a, h, k, e⟩ => ⟨a, List.mem_filter.2 ⟨h, decide_eq_true k⟩, e⟩⟩
theorem all_bl {bl : List Api.Block} {b : Api.Block} (hb : b ∈ bl) {y : Wd} (h : y ∈ namesBl b) : y ∈ allN bl := List.mem_flatMap.2 ⟨b, hb, h⟩
theorem bl_t {b : Api.Block} {y : Wd} (h : y ∈ usesT b.fin) : y ∈ namesBl b := List.mem_append_left _ h
theorem bl_i {b : Api.Block} {i : Instr} (hi : i ∈ b.code) {y : Wd} (h : y ∈ namesI i) : y ∈ namesBl b := List.mem_append_right _ (List.mem_append_left _ (List.mem_flatMap.2 ⟨i, hi, h⟩))
theorem bl_p {b : Api.Block} {p : Phi} (hp : p ∈ b.phis) {y : Wd} (h : y ∈ namesPh p) : y ∈ namesBl b := List.mem_append_right _ (List.mem_append_right _ (List.mem_flatMap.2 ⟨p, hp, h⟩))
theorem strG_I {i : Instr} (h : OpenP.instrG i) : ∀ y ∈ namesI i, y.length ≤ 140737488351232 := by
  intro y hy
  obtain ⟨⟨_, hd, _⟩, ha, hf, ho⟩ := h
  rcases List.mem_cons.1 hy with rfl | hy
  · exact hd
  · unfold usesI at hy
    rcases List.mem_append.1 hy with hy | hy
    · obtain ⟨a, h1, _, rfl⟩ := mem_namesA.1 hy
      exact (ha a h1).2
    · rcases List.mem_append.1 hy with hy | hy
      · obtain ⟨f, h1, h2⟩ := List.mem_flatMap.1 hy
        obtain ⟨a, h3, _, rfl⟩ := mem_namesA.1 h2
        obtain ⟨b, h4, rfl⟩ := List.mem_map.1 h3
        exact ((hf f h1).2.2 b h4).2.2
      · obtain ⟨o, h1, h2⟩ := List.mem_flatMap.1 hy
        obtain ⟨a, h3, _, rfl⟩ := mem_namesA.1 h2
        exact ((ho o h1).2 a h3).2
theorem all_nm {f : Api.Func} (hG : OpenP.funcG f) : ∀ y ∈ allN f.blocks, y.length ≤ 140737488351232 := by
  intro y hy
  obtain ⟨b, hb, hy⟩ := List.mem_flatMap.1 hy
  obtain ⟨_, hp, hc, ht⟩ := hG.2.2.2 b hb
  rcases List.mem_append.1 hy with hy | hy
  · unfold usesT at hy
    split at hy
    · obtain ⟨a, h1, _, rfl⟩ := mem_namesA.1 hy
      rw [List.mem_singleton] at h1
      subst h1
      exact ht.2.1.2
    · cases hy
  · rcases List.mem_append.1 hy with hy | hy
    · obtain ⟨i, hi, h⟩ := List.mem_flatMap.1 hy
      exact strG_I (hc i hi) y h
    · obtain ⟨p, hpm, h⟩ := List.mem_flatMap.1 hy
      rcases List.mem_cons.1 h with rfl | h
      · exact (hp p hpm).1
      · obtain ⟨q, hq, h⟩ := List.mem_flatMap.1 h
        obtain ⟨a, h1, _, rfl⟩ := mem_namesA.1 h
        rw [List.mem_singleton] at h1
        subst h1
        exact ((hp p hpm).2 q hq).2.2
theorem edges_len (bl : List Api.Block) (h : ∀ b ∈ bl, b.fin.dest.length ≤ 8) : ∀ k : Nat, (edgesTo bl k).length ≤ 8 * k
  | 0 => by simp [edgesTo]
  | k + 1 => by
    have h1 := edges_len bl h k
    rw [edgesTo_next, List.length_append]
    have h2 : (edgesOf bl k).length ≤ 8 := by
      unfold edgesOf
      split
      · rename_i b hb
        rw [List.length_map]
        exact h b (List.mem_of_getElem? hb)
      · simp
    omega
theorem uok_of {f : Api.Func} (hG : OpenP.funcG f) (hF : Few12 f) : UOk (allN f.blocks) := ⟨by have := len_allN f; have := hF.1; omega, all_nm hG⟩
theorem fok_of {f : Api.Func} (hG : OpenP.funcG f) (hF : Few12 f) : FOk (allN f.blocks) f.blocks := by
  obtain ⟨h1, h2, h3, h4⟩ := hF
  have hl := len_allN f
  refine ⟨List.length_pos_iff.2 h4.1, by omega, ?_, fun b hb => (hG.2.2.2 b hb).1, fun b hb x hx => (hG.2.2.2 b hb).2.2.2.2.2.1 x hx, fun b hb x hx => ((h4.2.2.1 b hb).2 x hx).1, ?_, fun b hb x hx => all_bl hb (bl_t hx), fun b hb i hi => ⟨all_bl hb (bl_i hi (by simp [namesI])), fun x hx => all_bl hb (bl_i hi (by simp [namesI, hx]))⟩, fun b hb => ?_, fun b hb p hp => ⟨all_bl hb (bl_p hp (by simp [namesPh])), fun q hq => ⟨(((hG.2.2.2 b hb).2.1 p hp).2 q hq).1, fun x hx => all_bl hb (bl_p hp (List.mem_cons_of_mem _ (List.mem_flatMap.2 ⟨q, hq, hx⟩)))⟩⟩⟩
  · have : f.blocks.length * (allN f.blocks).length ≤ 30 * 3000 := Nat.mul_le_mul h3 (by omega)
    omega
  · have := edges_len f.blocks (fun b hb => (h2.2 b hb).1) f.blocks.length
    omega
  · have h5 : b.code.length ≤ Few6.sumOf Few6.cInstr b.code := len_sum fun x => by unfold Few6.cInstr; omega
    have h6 : Few6.cBlock b ≤ Few6.sumOf Few6.cBlock f.blocks := Few6.sum_mem _ hb
    unfold Few6.cBlock at h6
    unfold Few6.cFunc at h1
    unfold Few6.cBlock at h1
    omega
theorem instr_s12 {x : Instr} (h : OpenP.instrG x) : Few6.instrS x := ⟨h.1.2, (fun a ha => (h.2.1 a ha).2), (fun f hf => ⟨(h.2.2.1 f hf).1.1, (h.2.2.1 f hf).1.2, fun b hb => ⟨((h.2.2.1 f hf).2.2 b hb).1, (((h.2.2.1 f hf).2.2 b hb).2).2⟩⟩), fun o ho => ⟨(h.2.2.2 o ho).1, fun a ha => ((h.2.2.2 o ho).2 a ha).2⟩⟩
theorem block_s12 {b : Api.Block} (h : OpenP.blockG b) : Few6.blockS b := ⟨⟨h.1, h.2.2.2.2.1.2⟩, h.2.2.2.2.2.1, (fun p hp => ⟨(h.2.1 p hp).1, fun b hb => ⟨((h.2.1 p hp).2 b hb).1, (((h.2.1 p hp).2 b hb).2).2⟩⟩), fun i hi => instr_s12 (h.2.2.1 i hi)⟩
theorem func_s12 {f : Api.Func} (h : OpenP.funcG f) : Few6.funcS f := ⟨h.1, h.2.1, h.2.2.1, fun b hb => block_s12 (h.2.2.2 b hb)⟩
end Go.Proofs.Ytaeklfljibjpiaa.Lv12
