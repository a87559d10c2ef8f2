/-
  Layer 8: the program's search for what can be come to.
-/
import Derived.Test.YtdgmdpphimenjaaDoorShEnds
import Derived.Test.YtdgmdpphimenjaaDoorShDfs
namespace Go.Proofs.YtdgmdpphimenjaaDoor.Sh8
open Go.RowKit Api Mem Go.Maps

/-- 'append(s, x)' of one thing onto a row of the call's own. -/
theorem push_own {P : Program} {w : World} {ops : Array Oper} {rest : List Oper} {o : Oper} {a : Go.Act} {Q : Exit → Go.Act → World → Prop} (hgd : o.guard = none) (s x : Operand) (t : TypeId)
    (ho : o.op = .call { callee := .builtin .append, args := #[s, x], argTypes := #[t, t] })
    (base : Nat) (e : TypeId) (z : Value) (size bytes : Nat) (ht : P.underlying t = some (.slice e)) (hinf : (P.info? e).map (fun i => (i.zero, i.size, i.bytes)) = some (some z, size, bytes)) (hzs : z.cells.size = size) (hsz : 0 < size)
    (v : Value) (n : Nat) (xs : List Value) (hs : a.eval s = v) (hown : w.ownsRow base e size v n xs)
    (news : List Value) (k : Nat) (hk : k = w.heap.size) (hx : a.eval x = .slice (some ⟨k, 0, none⟩) 1 1) (hl : news.length = size) (h1 : ∀ u ∈ news, u.oneCell' = true)
    (h63 : n + 1 ≤ maxLen) (hbytes : (n + 1) * bytes ≤ 140737488355328) (hbase : base ≤ w.heap.size)
    (h : ∀ v' w', w'.ownsRow base e size v' (n + 1) (xs ++ news) → w.grownBy w' v.ownBlock → wpList P ops Q rest (a.put o.dst v') w') :
    wpList P ops Q (o :: rest) a (w.alloc (.cells news.toArray e)) := by
  subst hk
  obtain ⟨i, hi, hz0, hz1, hz2⟩ := info_parts hinf
  refine wpList_append_own (w := w.alloc (.cells news.toArray e)) hgd s x t ho base e i z size bytes ht hi hz0 hz1 hz2 hzs hsz v n xs hs (hown.alloc _) ⟨w.heap.size, 0, none⟩ 1 1 news hx (by omega) ?_ h1 h63 hbytes (by simp; omega) ?_
  · intro j u hu
    have e1 : (⟨w.heap.size, 0, none⟩ : Addr).add j = ⟨w.heap.size, j, none⟩ := by unfold Addr.add; split <;> simp_all
    rw [e1, (Own.made w e news).cell]
    exact hu
  · intro v' w' h2 h3 _
    exact h v' w' h2 ((World.grownBy_alloc w _ _).trans h3)
/-- a row of the call's own without its last element. -/
theorem pop_own {w : World} {base : Nat} {e : TypeId} {v : Value} {s : Nat} {xs : List Value} {u : Value} (h : w.ownsRow base e 1 v (s + 1) (xs ++ [u])) : ∃ g cap, v = .slice (some ⟨g, 0, none⟩) (s + 1) cap ∧ base ≤ g ∧ g < w.heap.size ∧ s + 1 ≤ cap ∧ w.cell? ⟨g, s, none⟩ = some u ∧ w.ownsRow base e 1 (.slice (some ⟨g, 0, none⟩) s cap) s xs := by
  have hl := h.1
  simp at hl
  rcases h.2 with ⟨_, h0⟩ | ⟨g, cap, cur, rfl, hb, hg, hnc, hcm, hcs, ht⟩
  · omega
  · refine ⟨g, cap, rfl, hb, (Array.getElem?_eq_some_iff.1 hg).1, hnc, ?_, ⟨by omega, .inr ⟨g, cap, cur, rfl, hb, hg, by omega, hcm, hcs, ?_⟩⟩⟩
    · rw [h.cellAt s (by omega), List.getElem?_append_right (by omega)]
      simp [hl]
    · have h2 := congrArg (List.take (s * 1)) ht
      rw [List.take_take] at h2
      have e1 : min (s * 1) ((s + 1) * 1) = s * 1 := by omega
      rw [e1] at h2
      rw [h2, List.take_left' (by omega)]
theorem own_grown {w w' : World} {g : Nat} {t : TypeId} {cs : List Value} {row : Option Nat} (h : Own w g t cs) (hg : w.grownBy w' row) (hne : row ≠ some g) : Own w' g t cs := (hg.block g h.lt (fun e => hne e.symm)).trans h
def slLen : Value → Nat
  | .slice _ n _ => n
  | _ => 0
theorem slLen_own {w : World} {base : Nat} {e : TypeId} {v : Value} {n : Nat} {xs : List Value} {size : Nat} (h : w.ownsRow base e size v n xs) : slLen v = n := by
  rcases h.2 with ⟨rfl, rfl⟩ | ⟨g, cap, cur, rfl, _⟩ <;> rfl
theorem row_set {w : World} {base : Nat} {e : TypeId} {size : Nat} {v : Value} {n : Nat} {xs : List Value} (h : w.ownsRow base e size v n xs) {g i : Nat} (hg : g < base) (u : Value) : (w.setCell ⟨g, i, none⟩ u).ownsRow base e size v n xs := by
  refine ⟨h.1, ?_⟩
  rcases h.2 with hn | ⟨k, cap, cur, rfl, hb, hk, r⟩
  · exact .inl hn
  · exact .inr ⟨k, cap, cur, rfl, hb, (RowKit.Below.heap_setCell _ _ _ _ (show k ≠ g by omega)).trans hk, r⟩
theorem row_form {w : World} {base : Nat} {e : TypeId} {size : Nat} {v : Value} {n : Nat} {xs : List Value} (h : w.ownsRow base e size v n xs) : ∃ A cap, v = .slice A n cap := by
  rcases h.2 with ⟨rfl, rfl⟩ | ⟨g, cap, cur, rfl, _⟩
  · exact ⟨_, _, rfl⟩
  · exact ⟨_, _, rfl⟩
theorem own_far {w : World} {base : Nat} {e : TypeId} {size : Nat} {v : Value} {n : Nat} {xs : List Value} (h : w.ownsRow base e size v n xs) {g : Nat} (hg : g < base) : v.ownBlock ≠ some g := fun e => by
  have := (h.lt g e).1
  omega
abbrev C0 (n : Nat) : List Bool := (List.replicate n false).set 0 true
theorem start8 (W : World) (n b : Nat) (hb : W.heap.size = b) (W5 : World) (h5 : (W.alloc (.cells ((C0 n).map .bool).toArray 4)).alloc (.cells #[i64 0] 3) = W5) :
    Own W5 b 4 ((C0 n).map .bool) ∧ W5.ownsRow (b + 1) 3 1 (.slice (some ⟨b + 1, 0, none⟩) 1 1) 1 [i64 0] ∧ Below b W W5 := by
  subst hb
  subst h5
  refine ⟨(Own.made W _ _).alloc _, ?_, ((Below.refl _ _).alloc (Nat.le_refl _) _).alloc (by simp) _⟩
  have := World.ownsRow_lit (base := W.heap.size + 1) (e := 3) (size := 1) (W.alloc (.cells ((C0 n).map .bool).toArray 4)) #[i64 0] 1 (by simp) (by unfold maxLen; omega) rfl
  simpa using this
end Go.Proofs.YtdgmdpphimenjaaDoor.Sh8
