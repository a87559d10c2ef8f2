/-
  Package show: the words of lines, walked.
-/
import Derived.Test.YtikfncgdjnljiaaDoorAlls
import Derived.Test.YtikfncgdjnljiaaDoorCallsL
import Derived.Test.YtikfncgdjnljiaaDoorHold
import Derived.Lib.Walk
namespace Go.Proofs.YtikfncgdjnljiaaDoor.Sh6
open Go.RowKit Api Syn WordM Mem Rd5

theorem own_hold6 {w w' : World} {g B : Nat} {t : TypeId} {cs : List Value} (o : Own w g t cs) (hb : Below B w w') (hg : g < B) (i : Nat) {u : Value} (h : cs[i]? = some u) : w'.cell? ⟨g, i, none⟩ = some u := ((o.below hb hg).cell i).trans h
theorem s_info : (Tryd.prog.info? 9).map (fun i => (i.zero, i.size, i.bytes)) = some (some (.string ⟨#[]⟩), 1, 16) := by kernel_rfl
/-- A new row of words. -/
def WordsP (w : World) (ws : List Wd) (e : Ending) (w' : World) : Prop := ∃ v, e = .returned v ∧ w'.ownsRow w.heap.size 9 1 v ws.length (LinesM.strs ws) ∧ Below w.heap.size w w'
theorem strs_snoc (ws : List Wd) (x : Wd) : LinesM.strs (ws ++ [x]) = LinesM.strs ws ++ [str x] := by simp [LinesM.strs]
/-- 'append(s, xs...)' of m elements laid in a new block, as a step of a region that draws its order, behind a call. -/
theorem step_app {P : Program} {ops : Array Oper} {o : Oper} {a : Act} {w0 w : World} {K : Act → World → Prop} {Q : Exit → Act → World → Prop} {E : Prop} (hg : o.guard = none) (s x : Operand) (t : TypeId)
    (hop : o.op = Op.call { callee := Callee.builtin Builtin.append, args := #[s, x], argTypes := #[t, t] })
    (base : Nat) (e : TypeId) (i : TypeInfo) (z : Value) (size bytes : Nat) (ht : P.underlying t = some (.slice e)) (hi : P.info? e = some i) (hz : i.zero = some z)
    (hsize : i.size = size) (hby : i.bytes = bytes) (hzs : z.cells.size = size) (hsz : 0 < size)
    (v : Value) (n : Nat) (xs : List Value) (hs : a.eval s = v) (hown : w0.ownsRow base e size v n xs)
    (news : List Value) (m : Nat) (hw : w = w0.alloc (.cells news.toArray e)) (k : Nat) (hk : k = w0.heap.size) (hx : a.eval x = .slice (some ⟨k, 0, none⟩) m m) (hl : news.length = m * size) (h1 : ∀ u ∈ news, u.oneCell' = true)
    (h63 : n + m ≤ maxLen) (hbytes : (n + m) * bytes ≤ 140737488355328) (hbase : base ≤ w0.heap.size)
    (hK : ∀ v' w', w'.ownsRow base e size v' (n + m) (xs ++ news) → w0.grownBy w' v.ownBlock → K (a.put o.dst v') w') :
    if Region.wanted o (yielded ops a.tmps) = true then Oper.wp P o a w K Q else E := by
  have hwt : Region.wanted o (yielded ops a.tmps) = true := by simp [Region.wanted, hg]
  rw [if_pos hwt]
  subst hw
  subst hk
  refine wp_append_own (w := w0.alloc (.cells news.toArray e)) s x t hop base e i z size bytes ht hi hz hsize hby hzs hsz v n xs hs (hown.alloc (.cells news.toArray e)) ⟨w0.heap.size, 0, none⟩ m m news hx hl ?_ h1 h63 hbytes (by simp; omega) ?_
  · intro j u hu
    have e1 : (⟨w0.heap.size, 0, none⟩ : Addr).add j = ⟨w0.heap.size, j, none⟩ := by unfold Addr.add; split <;> simp_all
    rw [e1, (Own.made w0 e news).cell]
    exact hu
  · intro v' w' h2 h3 _
    refine hK v' w' h2 ⟨h3.os, h3.tape, h3.output, Nat.le_trans (by simp) h3.size, fun k hk hne => ?_⟩
    exact (h3.block k (by simp; omega) hne).trans (heap_alloc_old w0 _ hk)
theorem pair_len (l : List Bind) : (l.flatMap bindL).length = 2 * l.length := by
  induction l with
  | nil => rfl
  | cons a l ih => rw [List.flatMap_cons, List.length_append, ih]; simp [bindL]; omega
theorem strs_app (a b : List Wd) : LinesM.strs (a ++ b) = LinesM.strs a ++ LinesM.strs b := by simp [LinesM.strs]
theorem made_row {w W : World} {base g : Nat} (cs : List Value) (ws : List Wd) (hW : w.alloc (.cells cs.toArray 9) = W) (hg : g = w.heap.size) (hb : base ≤ w.heap.size) (hcs : cs = LinesM.strs ws) (hl : cs.length ≤ 100) : W.ownsRow base 9 1 (.slice (some ⟨g, 0, none⟩) cs.length cs.length) ws.length (LinesM.strs ws) := by
  subst hW hg hcs
  have := (Own.made w 9 (LinesM.strs ws)).row (base := base) (n := (LinesM.strs ws).length) (ys := LinesM.strs ws) hb (Nat.le_refl _) (by unfold maxLen; omega) rfl (by rw [List.take_length])
  have e : (LinesM.strs ws).length = ws.length := by simp [LinesM.strs]
  rw [e] at this ⊢
  exact this
end Go.Proofs.YtikfncgdjnljiaaDoor.Sh6
