/-
  A text's lines, whatever their numbers are: of an error only its line counts; cut behind it, or with other lines behind it, it is the same; so with blanks, empty lines and remarks.
  Package show: the text of a program, as plain data: how long it is at most, and that it is read as it.
-/
import Derived.Test.YtkmndgjabkjafaaGreatDoorParsT
import Derived.Test.YtkmndgjabkjafaaGreatDoorBackT
namespace Go.Proofs.YtkmndgjabkjafaaGreatDoor.Rd5
open Go.RowKit Api Syn WordM
open LinesM hiding Wd

theorem textE_of {s : List UInt8} {o : List Ln} (h : splitV s = (o, 0, 0)) : textE s = parseE o := by
  unfold textE
  rw [h]
  simp
end Go.Proofs.YtkmndgjabkjafaaGreatDoor.Rd5

namespace Go.Proofs.YtkmndgjabkjafaaGreatDoor.Rd5
open Go.RowKit Api Syn WordM
open LinesM hiding Wd

/-- The text of a program, or why it has none. -/
def textV (q : Prog) : Wd × Int := if progR q = true then (if wp q ≤ 4194304 then (joinV (progLs q), 0) else ([], 2)) else ([], 1)

theorem flat_ne {α : Type} {f : α → List (List Wd)} {l : List α} (h : ∀ x ∈ l, ∀ ws ∈ f x, ws ≠ []) : ∀ ws ∈ l.flatMap f, ws ≠ [] := by
  intro ws hw
  obtain ⟨x, hx, hy⟩ := List.mem_flatMap.1 hw
  exact h x hx ws hy
theorem map_ne {α : Type} {f : α → List Wd} {l : List α} (h : ∀ x, f x ≠ []) : ∀ ws ∈ l.map f, ws ≠ [] := by
  intro ws hw
  obtain ⟨x, _, rfl⟩ := List.mem_map.1 hw
  exact h x
theorem app_ne {a b : List (List Wd)} (ha : ∀ ws ∈ a, ws ≠ []) (hb : ∀ ws ∈ b, ws ≠ []) : ∀ ws ∈ a ++ b, ws ≠ [] := by
  intro ws hw
  rcases List.mem_append.1 hw with h | h
  · exact ha ws h
  · exact hb ws h
theorem cons_ne {a : List Wd} {b : List (List Wd)} (ha : a ≠ []) (hb : ∀ ws ∈ b, ws ≠ []) : ∀ ws ∈ a :: b, ws ≠ [] := by
  intro ws hw
  rcases List.mem_cons.1 hw with rfl | h
  · exact ha
  · exact hb ws h
theorem end_ne (t : Api.Term) : endL t ≠ [] := by
  unfold endL
  repeat' split
  all_goals simp
theorem instr_ne (i : Instr) : ∀ ws ∈ instrLs i, ws ≠ [] := by
  unfold instrLs
  refine cons_ne ?_ (app_ne (map_ne fun x => by simp [frameL]) (map_ne fun x => by simp [virtL]))
  unfold instrL
  split
  · simp [instrW]
  · simp
theorem block_ne (b : Api.Block) : ∀ ws ∈ blockLs b, ws ≠ [] := by
  unfold blockLs
  refine cons_ne (by simp) (app_ne (map_ne fun x => by simp [phiL]) (app_ne (flat_ne fun i _ => instr_ne i) ?_))
  unfold finLs
  split
  · intro ws h; cases h
  · intro ws h
    rw [List.mem_singleton] at h
    subst h
    exact end_ne _
theorem func_ne (f : Api.Func) : ∀ ws ∈ funcLs f, ws ≠ [] :=
  cons_ne (by simp) (app_ne (map_ne fun x => by simp [varL]) (app_ne (map_ne fun x => by simp [varL]) (flat_ne fun b _ => block_ne b)))
theorem prog_ne (q : Prog) : ∀ ws ∈ progLs q, ws ≠ [] := by
  unfold progLs
  refine app_ne ?_ (app_ne (flat_ne fun c _ => cons_ne (by simp) (map_ne fun x => by simp [varL])) (app_ne (map_ne fun x => by simp [varL]) (app_ne (map_ne fun x => by simp [externL]) (flat_ne fun f _ => func_ne f))))
  split
  · intro ws h
    rw [List.mem_singleton] at h
    subst h
    simp
  · intro ws h; cases h
theorem wlen_pos {ws : List Wd} (h : ws ≠ []) : 1 ≤ wlen ws := by
  cases ws with
  | nil => exact absurd rfl h
  | cons a l => simp [wlen]; omega
theorem len_wls {L : List (List Wd)} (h : ∀ ws ∈ L, ws ≠ []) : L.length ≤ wls L := by
  induction L with
  | nil => simp
  | cons a l ih =>
    have h1 := wlen_pos (h a (by simp))
    have h2 := ih fun ws hw => h ws (by simp [hw])
    rw [wls_cons, List.length_cons]
    omega
theorem join_wls {L : List (List Wd)} (h : ∀ ws ∈ L, ws ≠ []) : (joinV L).length = wls L := by
  induction L with
  | nil => rfl
  | cons a l ih =>
    have h1 := lineJ_wlen a (h a (by simp))
    have h2 := ih fun ws hw => h ws (by simp [hw])
    have e : joinV (a :: l) = lineJ a ++ [10] ++ joinV l := by unfold joinV; simp
    rw [wls_cons, e, List.length_append, List.length_append, h2]
    simp only [List.length_cons, List.length_nil]
    omega

/-! ### how long -/
theorem wlen_le {ws : List Wd} {n : Nat} (hn : ws.length ≤ n) (h : ∀ x ∈ ws, x.length ≤ 99) : wlen ws ≤ n * 100 := by
  have : wlen ws ≤ ws.length * 100 := by
    clear hn
    induction ws with
    | nil => simp [wlen]
    | cons a l ih =>
      have h1 := h a (by simp)
      have h2 := ih fun x hx => h x (by simp [hx])
      rw [wlen_cons, List.length_cons]
      omega
  omega
theorem wls_le {L : List (List Wd)} {n M : Nat} (hn : L.length ≤ n) (h : ∀ ws ∈ L, wlen ws ≤ M) : wls L ≤ n * M := by
  have h2 : wls L ≤ L.length * M := by
    clear hn
    induction L with
    | nil => simp [wls]
    | cons a l ih =>
      have h1 := h a (by simp)
      have h2 := ih fun x hx => h x (by simp [hx])
      rw [wls_cons, List.length_cons, Nat.succ_mul]
      omega
  exact Nat.le_trans h2 (Nat.mul_le_mul_right M hn)
theorem wls_map_le {α : Type} {f : α → List Wd} {l : List α} {n M : Nat} (hn : l.length ≤ n) (h : ∀ x ∈ l, wlen (f x) ≤ M) : wls (l.map f) ≤ n * M :=
  wls_le (by rw [List.length_map]; exact hn) fun ws hw => by obtain ⟨x, hx, rfl⟩ := List.mem_map.1 hw; exact h x hx
theorem wls_flat_le {α : Type} {f : α → List (List Wd)} {l : List α} {n M : Nat} (hn : l.length ≤ n) (h : ∀ x ∈ l, wls (f x) ≤ M) : wls (l.flatMap f) ≤ n * M := by
  have h2 : wls (l.flatMap f) ≤ l.length * M := by
    clear hn
    induction l with
    | nil => simp [wls]
    | cons a l ih =>
      have h1 := h a (by simp)
      have h2 := ih fun x hx => h x (by simp [hx])
      rw [List.flatMap_cons, wls_append, List.length_cons, Nat.succ_mul]
      omega
  exact Nat.le_trans h2 (Nat.mul_le_mul_right M hn)
theorem name_len {x : Wd} (h : nameV x = true) : x.length ≤ 99 := by
  obtain ⟨_, _, _, _, _, h⟩ := name_parts h
  omega
theorem kind_len {x : Wd} (h : kindV x = true) : x.length ≤ 99 := by
  unfold kindV at h
  simp only [Bool.or_eq_true, beq_iff_eq] at h
  rcases h with (rfl | rfl) | h
  · decide
  · decide
  · exact name_len h
theorem dec_len {n : Int} (h : NumM.In n) : (NumM.dec n).length ≤ 99 := by
  have h2 := NumM.get_dec n h
  unfold NumM.getV at h2
  split at h2
  · simp at h2
  · omega
theorem arg_len {a : Arg} (h : argR a = true) (hI : argI a) : (putA a).length ≤ 99 := by
  have : (wput (ofA a)).length ≤ 22 := wput_len h hI
  unfold putA
  omega
theorem argx_len {a : Arg} (h : argX a = true) (hI : argI a) : (putA a).length ≤ 99 := arg_len (x_of h).1 hI
theorem var_len {v : Var} (h : varR v = true) {k : Wd} (hk : k.length ≤ 99) : wlen (varL k v) ≤ 300 := by
  unfold varR at h
  simp only [Bool.and_eq_true] at h
  have h1 := name_len h.1
  have h2 := kind_len h.2
  refine wlen_le (n := 3) (by simp [varL]) ?_
  intro x hx
  simp only [varL, List.mem_cons, List.not_mem_nil, or_false] at hx
  rcases hx with rfl | rfl | rfl <;> assumption
theorem binds_len {l : List Bind} {n : Nat} (hn : l.length ≤ n) (h : ∀ b ∈ l, nameV b.name = true ∧ (putA b.a).length ≤ 99) : (l.flatMap bindL).length ≤ 2 * n ∧ ∀ x ∈ l.flatMap bindL, x.length ≤ 99 := by
  constructor
  · have : (l.flatMap bindL).length = 2 * l.length := by
      clear hn h
      induction l with
      | nil => rfl
      | cons a l ih => rw [List.flatMap_cons, List.length_append, ih, List.length_cons]; simp [bindL]; omega
    omega
  · intro x hx
    obtain ⟨b, hb, hy⟩ := List.mem_flatMap.1 hx
    simp only [bindL, List.mem_cons, List.not_mem_nil, or_false] at hy
    rcases hy with rfl | rfl
    · exact name_len (h b hb).1
    · exact (h b hb).2
theorem phi_len {p : Phi} (h : phiR p = true) (hI : phiI p) : wlen (phiL p) ≤ 51400 := by
  unfold phiR allR at h
  simp only [Bool.and_eq_true, decide_eq_true_eq, List.all_eq_true] at h
  obtain ⟨h1, _, h3, h4⟩ := h
  have h5 := binds_len h3 fun b hb => by
    have := h4 b hb
    unfold inR at this
    simp only [Bool.and_eq_true] at this
    exact ⟨this.1, argx_len this.2 (hI b hb)⟩
  refine wlen_le (n := 514) (by simp only [phiL, List.length_cons]; omega) ?_
  intro x hx
  simp only [phiL, List.mem_cons] at hx
  rcases hx with rfl | rfl | hx
  · decide
  · exact name_len h1
  · exact h5.2 x hx
theorem frame_len {f : Api.Frame} (h : frameR f = true) (hI : ∀ b ∈ f.vars, argI b.a) : wlen (frameL f) ≤ 3600 := by
  unfold frameR allR at h
  simp only [Bool.and_eq_true, decide_eq_true_eq, List.all_eq_true] at h
  obtain ⟨h1, h2, ⟨h3, h4⟩, h5, h6⟩ := h
  have h7 := binds_len h5 fun b hb => by
    have := h6 b hb
    unfold bindR at this
    simp only [Bool.and_eq_true] at this
    exact ⟨this.1, arg_len this.2 (hI b hb)⟩
  refine wlen_le (n := 36) (by simp only [frameL, List.length_cons]; omega) ?_
  intro x hx
  simp only [frameL, List.mem_cons] at hx
  rcases hx with rfl | rfl | rfl | rfl | hx
  · decide
  · exact name_len h1
  · exact name_len h2
  · exact dec_len (by unfold NumM.In; omega)
  · exact h7.2 x hx
theorem virt_len {f : Virt} (h : virtR f = true) (hI : ∀ a ∈ f.vals, argI a) : wlen (virtL f) ≤ 1000 := by
  unfold virtR allR at h
  simp only [Bool.and_eq_true, decide_eq_true_eq, List.all_eq_true] at h
  obtain ⟨h1, h2, h3⟩ := h
  refine wlen_le (n := 10) (by simp only [virtL, List.length_cons, List.length_map]; omega) ?_
  intro x hx
  simp only [virtL, List.mem_cons, List.mem_map] at hx
  rcases hx with rfl | rfl | ⟨a, ha, rfl⟩
  · decide
  · exact name_len h1
  · exact arg_len (h3 a ha) (hI a ha)
theorem none_len {x : Wd} {b : Bool} (h : noneR x b = true) : x.length ≤ 99 := by
  unfold noneR at h
  split at h
  · exact name_len h
  · simp only [beq_iff_eq] at h
    subst h
    decide
theorem opw_len (k : Nat) : (opWords.getD k []).length ≤ 99 := by
  by_cases h : k < 35
  · have hall : ∀ k ∈ List.range 35, (opWords.getD k []).length ≤ 99 := by decide +kernel
    exact hall k (List.mem_range.2 h)
  · have hl : opWords.length ≤ 35 := by decide +kernel
    rw [List.getD_eq_getElem?_getD, List.getElem?_eq_none (by omega)]
    decide
theorem wls_instr {i : Instr} (h : instrR i = true) (hI : instrI i) : wls (instrLs i) ≤ 157800 := by
  have h0 := h
  unfold instrR at h
  simp only [Bool.and_eq_true, decide_eq_true_eq, List.all_eq_true] at h
  obtain ⟨hf, hd, hn, _, ⟨hm, hx⟩, hst⟩ := h
  have hm2 := (ahead_least hf).2.2
  have hst2 : ((∀ f ∈ i.frames, frameR f = true) ∧ i.frames.length ≤ 16) ∧ ((∀ o ∈ i.objs, virtR o = true) ∧ i.objs.length ≤ 99) := by
    unfold stateR at hst
    split at hst
    · simp only [Bool.and_eq_true, decide_eq_true_eq, List.length_eq_zero_iff] at hst
      rw [hst.1, hst.2]
      simp
    · simp only [Bool.and_eq_true] at hst
      unfold allR at hst
      simp only [Bool.and_eq_true, decide_eq_true_eq, List.all_eq_true] at hst
      exact ⟨⟨hst.1.2, hst.1.1⟩, ⟨hst.2.2, hst.2.1⟩⟩
  have hW : (instrW i).length ≤ 10 ∧ ∀ x ∈ instrW i, x.length ≤ 99 := by
    constructor
    · unfold instrW
      simp only [List.length_cons, List.length_append, List.length_map, List.length_take, List.length_drop]
      have : (if (formV i.op).1.named = true then [i.name] else []).length ≤ 1 := by split <;> simp
      omega
    · intro x hw
      have harg : ∀ a ∈ i.args, (putA a).length ≤ 99 := fun a ha => argx_len (hx a ha) (hI.1 a ha)
      simp only [instrW, List.mem_cons, List.mem_append, List.mem_map] at hw
      rcases hw with rfl | ⟨a, ha, rfl⟩ | hw | ⟨a, ha, rfl⟩
      · exact opw_len _
      · exact harg a (List.mem_of_mem_take ha)
      · split at hw
        · rw [List.mem_singleton] at hw
          subst hw
          exact none_len hn
        · cases hw
      · exact harg a (List.mem_of_mem_drop ha)
  have hL : wlen (instrL i) ≤ 1200 := by
    unfold instrL
    split
    · have := wlen_le (n := 10) hW.1 hW.2
      omega
    · refine wlen_le (n := 12) (by simp only [List.length_cons]; omega) ?_
      intro x hw
      simp only [List.mem_cons] at hw
      rcases hw with rfl | rfl | hw
      · exact none_len hd
      · decide
      · exact hW.2 x hw
  have hF := wls_map_le (f := frameL) hst2.1.2 fun f hf => frame_len (hst2.1.1 f hf) (hI.2.1 f hf)
  have hO := wls_map_le (f := virtL) hst2.2.2 fun o ho => virt_len (hst2.2.1 o ho) (hI.2.2 o ho)
  rw [wi_eq]
  omega
theorem end_len {t : Api.Term} (h : finR t = true) (hI : finI t) : wlen (endL t) ≤ 400 := by
  unfold finR at h
  unfold endL
  have hdest : ∀ n, destsR n t.dest = true → t.dest.length = n ∧ ∀ x ∈ t.dest, x.length ≤ 99 := by
    intro n hd
    unfold destsR at hd
    simp only [Bool.and_eq_true, decide_eq_true_eq, List.all_eq_true] at hd
    exact ⟨hd.1, fun x hx => name_len (hd.2 x hx)⟩
  split at h
  · rename_i h1
    rw [if_pos h1]
    simp only [Bool.and_eq_true] at h
    have hd := hdest _ h.2.1
    refine wlen_le (n := 4) (by simp only [List.length_cons]; omega) ?_
    intro x hx
    rcases List.mem_cons.1 hx with rfl | hx
    · decide
    · exact hd.2 x hx
  · rename_i h1
    rw [if_neg h1]
    split at h
    · rename_i h2
      rw [if_pos h2]
      simp only [Bool.and_eq_true] at h
      have hd := hdest _ h.2.1
      refine wlen_le (n := 4) (by simp only [List.length_cons]; omega) ?_
      intro x hx
      simp only [List.mem_cons] at hx
      rcases hx with rfl | rfl | hx
      · decide
      · exact argx_len h.1 hI.1
      · exact hd.2 x hx
    · rename_i h2
      rw [if_neg h2]
      split at h
      · rename_i h3
        rw [if_pos h3]
        simp only [Bool.and_eq_true] at h
        refine wlen_le (n := 4) (by simp) ?_
        intro x hx
        simp only [List.mem_cons, List.not_mem_nil, or_false] at hx
        rcases hx with rfl | rfl
        · decide
        · exact argx_len h.1 hI.1
      · rename_i h3
        rw [if_neg h3]
        refine wlen_le (n := 4) (by simp) ?_
        intro x hx
        simp only [List.mem_cons, List.not_mem_nil, or_false] at hx
        rcases hx with rfl | rfl
        · decide
        · exact dec_len hI.2
theorem wls_block {b : Api.Block} (h : blockR b = true) (hI : blockI b) : wls (blockLs b) ≤ 600 + longB b * 157800 := by
  have h0 := h
  unfold blockR allR at h
  simp only [Bool.and_eq_true, decide_eq_true_eq, List.all_eq_true] at h
  obtain ⟨h1, ⟨_, h3⟩, ⟨_, h5⟩, h6⟩ := h
  have hp := wls_map_le (f := phiL) (Nat.le_refl b.phis.length) fun p hp => phi_len (h3 p hp) (hI.1 p hp)
  have hc := wls_flat_le (f := instrLs) (Nat.le_refl b.code.length) fun i hi => wls_instr (h5 i hi) (hI.2.1 i hi)
  have he := end_len h6 hI.2.2
  have hn : wlen [kBlock, b.name] ≤ 2 * 100 := wlen_le (by simp) (by
    intro x hx
    simp only [List.mem_cons, List.not_mem_nil, or_false] at hx
    rcases hx with rfl | rfl
    · decide
    · exact name_len h1)
  rw [wb_eq, finLs_of h6, wls_cons, wls_nil]
  unfold longB
  omega
theorem wls_blocks {l : List Api.Block} (h : ∀ b ∈ l, blockR b = true ∧ blockI b) : wls (l.flatMap blockLs) ≤ l.length * 600 + longF l * 157800 := by
  induction l with
  | nil => simp [wls]
  | cons a l ih =>
    have h1 := wls_block (h a (by simp)).1 (h a (by simp)).2
    have h2 := ih fun b hb => h b (by simp [hb])
    have e : longF (a :: l) = longB a + longF l := by unfold longF; simp
    rw [List.flatMap_cons, wls_append, List.length_cons, e, Nat.succ_mul, Nat.add_mul]
    omega
theorem wls_func {f : Api.Func} (h : funcR f = true) (hI : funcI f) : wls (funcLs f) ≤ 170000000 := by
  have h0 := h
  unfold funcR allR at h
  simp only [Bool.and_eq_true, decide_eq_true_eq, List.all_eq_true] at h
  obtain ⟨h1, h2, ⟨h3, h4⟩, ⟨h5, h6⟩, ⟨_, h8⟩, h9, h10⟩ := h
  have hp := wls_map_le (f := varL kParam) h3 fun v hv => var_len (h4 v hv) (by decide)
  have hv := wls_map_le (f := varL kVar) h5 fun v hv => var_len (h6 v hv) (by decide)
  have hb := wls_blocks fun b hb => ⟨h10 b hb, hI b hb⟩
  have hn : wlen [kFunc, f.name, f.result] ≤ 3 * 100 := wlen_le (by simp) (by
    intro x hx
    simp only [List.mem_cons, List.not_mem_nil, or_false] at hx
    rcases hx with rfl | rfl | rfl
    · decide
    · exact name_len h1
    · exact kind_len h2)
  rw [wf_eq]
  omega
/-- A right program's text isn't too long to be reckoned with. -/
theorem wp_le {q : Prog} (h : progR q = true) (hI : progI q) : wp q ≤ 2147483648 := by
  unfold progR allR at h
  simp only [Bool.and_eq_true, decide_eq_true_eq, List.all_eq_true] at h
  obtain ⟨⟨h1, h2⟩, ⟨h3, h4⟩, ⟨h5, h6⟩, h7, h8⟩ := h
  have hc : wls (q.classes.flatMap classLs) ≤ 8 * 2600 := wls_flat_le h1 fun c hc => by
    have := h2 c hc
    unfold classR allR at this
    simp only [Bool.and_eq_true, decide_eq_true_eq, List.all_eq_true] at this
    obtain ⟨g1, g2, g3⟩ := this
    have hf := wls_map_le (f := varL kField) g2 fun v hv => var_len (g3 v hv) (by decide)
    have hn : wlen [kClass, c.name] ≤ 2 * 100 := wlen_le (by simp) (by
      intro x hx
      simp only [List.mem_cons, List.not_mem_nil, or_false] at hx
      rcases hx with rfl | rfl
      · decide
      · exact name_len g1)
    rw [wc_eq]
    omega
  have hg := wls_map_le (f := varL kGlobal) h3 fun v hv => var_len (h4 v hv) (by decide)
  have he := wls_map_le (f := externL) (M := 300) h5 fun e he => by
    have := h6 e he
    unfold externR at this
    simp only [Bool.and_eq_true, decide_eq_true_eq] at this
    obtain ⟨g1, g2, g3⟩ := this
    refine wlen_le (n := 3) (by simp [externL]) ?_
    intro x hx
    simp only [externL, List.mem_cons, List.not_mem_nil, or_false] at hx
    rcases hx with rfl | rfl | rfl
    · decide
    · exact name_len g1
    · exact dec_len (by unfold NumM.In; omega)
  have hf := wls_flat_le (f := funcLs) h7 fun f hf => wls_func (h8 f hf) (hI f hf)
  have hs : wls (if q.ssa then [[kSsa]] else []) ≤ 4 := by split <;> decide
  rw [wp_eq]
  omega
theorem len_wp (q : Prog) : (progLs q).length ≤ wp q := len_wls (prog_ne q)
theorem join_wp (q : Prog) : (joinV (progLs q)).length = wp q := join_wls (prog_ne q)
end Go.Proofs.YtkmndgjabkjafaaGreatDoor.Rd5
