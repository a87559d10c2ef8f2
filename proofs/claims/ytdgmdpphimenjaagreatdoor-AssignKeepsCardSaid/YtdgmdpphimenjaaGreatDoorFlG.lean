/-
  FlDown FlDownW FlIter FlCome FlProg FlRev FlFact FlPredV FlRows FlPreds FlPlaces FlOf
-/
import Derived.Test.YtdgmdpphimenjaaGreatDoorPlainS
import Derived.Test.YtdgmdpphimenjaaGreatDoorFlRef
import Derived.Laws.OwnMore
import Derived.OwnWalk
import Derived.Deep.RegionLaw
import Derived.Laws.MakeOwn
import Derived.Test.YtdgmdpphimenjaaGreatDoorHold
import Derived.Deep.LoopGhost
import Derived.Deep.QuietTactic
import Derived.BigQuiet
import Derived.Test.YtdgmdpphimenjaaGreatDoorShPlaces
import Derived.Test.YtdgmdpphimenjaaGreatDoorShRef
import Derived.Test.YtdgmdpphimenjaaGreatDoorShEnds
/-
  Layer 9: going down, as a plain function.
-/
namespace Go.Proofs.YtdgmdpphimenjaaGreatDoor.Fl9

/-- how many are not marked. -/
def un : List Bool → Nat
  | [] => 0
  | b :: r => (if b then 0 else 1) + un r
theorem un_set : ∀ {m : List Bool} {k : Nat}, m[k]? = some false → un (m.set k true) + 1 = un m
  | [], k, h => by simp at h
  | b :: r, 0, h => by
    simp at h
    subst h
    simp [un]
    omega
  | b :: r, k + 1, h => by
    have := un_set (m := r) (k := k) (by simpa using h)
    simp only [List.set_cons_succ, un]
    omega
def stepV (n : Nat) (rec : Nat → List Bool → List Int → List Bool × List Int) (s : List Bool × List Int) (k : Int) : List Bool × List Int :=
  if 0 ≤ k ∧ k < (n : Int) ∧ s.1[k.toNat]? = some false then rec k.toNat s.1 s.2 else s
def downV (g : List (List Int)) : Nat → Nat → List Bool → List Int → List Bool × List Int
  | 0, _, m, l => (m, l)
  | f + 1, p, m, l => (((g.getD p []).foldl (stepV g.length (downV g f)) (m.set p true, l)).1, ((g.getD p []).foldl (stepV g.length (downV g f)) (m.set p true, l)).2 ++ [(p : Int)])
/-- what is known of the state while p's list is gone through. -/
structure Dn (n f : Nat) (m : List Bool) (l : List Int) (s : List Bool × List Int) : Prop where
  len : s.1.length = n
  sum : s.2.length + un s.1 + 1 = l.length + un m
  fuel : un s.1 ≤ f
  low : l.length ≤ s.2.length
def Good (n f : Nat) (rec : Nat → List Bool → List Int → List Bool × List Int) : Prop := ∀ p m l, m[p]? = some false → un m ≤ f → m.length = n → (rec p m l).1.length = n ∧ (rec p m l).2.length + un (rec p m l).1 = l.length + un m ∧ un (rec p m l).1 ≤ un m ∧ l.length ≤ (rec p m l).2.length
theorem Dn.step {n f : Nat} {rec : Nat → List Bool → List Int → List Bool × List Int} {m : List Bool} {l : List Int} {s : List Bool × List Int} (h : Dn n f m l s) (hr : Good n f rec) (k : Int) : Dn n f m l (stepV n rec s k) := by
  unfold stepV
  split
  · rename_i hk
    obtain ⟨h1, h2, h3, h4⟩ := hr k.toNat s.1 s.2 hk.2.2 h.fuel h.len
    exact ⟨h1, by rw [h2]; exact h.sum, Nat.le_trans h3 h.fuel, Nat.le_trans h.low h4⟩
  · exact h
theorem Dn.all {n f : Nat} {rec : Nat → List Bool → List Int → List Bool × List Int} {m : List Bool} {l : List Int} (hr : Good n f rec) : ∀ (ks : List Int) {s : List Bool × List Int}, Dn n f m l s → Dn n f m l (ks.foldl (stepV n rec) s)
  | [], _, h => h
  | k :: r, _, h => Dn.all hr r (h.step hr k)
theorem Dn.start {n f p : Nat} {m : List Bool} {l : List Int} (hp : m[p]? = some false) (hf : un m ≤ f + 1) (hl : m.length = n) : Dn n f m l (m.set p true, l) := by
  have := un_set hp
  exact ⟨by simp [hl], by show l.length + un (m.set p true) + 1 = _; omega, by show un (m.set p true) ≤ f; omega, Nat.le_refl _⟩
theorem down_good (g : List (List Int)) : ∀ f, Good g.length f (downV g f)
  | 0 => fun p m l hp hf hl => by
    have := un_set hp
    omega
  | f + 1 => fun p m l hp hf hl => by
    have h := Dn.all (down_good g f) (g.getD p []) (Dn.start (l := l) hp hf hl)
    have h0 := un_set hp
    unfold downV
    simp only [List.length_append, List.length_singleton]
    refine ⟨h.len, by have := h.sum; omega, by have := h.low; have := h.sum; omega, by have := h.low; omega⟩
theorem fold_next {n : Nat} {rec : Nat → List Bool → List Int → List Bool × List Int} {ks : List Int} {j : Nat} {k : Int} (h : ks[j]? = some k) (s : List Bool × List Int) : (ks.take (j + 1)).foldl (stepV n rec) s = stepV n rec ((ks.take j).foldl (stepV n rec) s) k := by
  obtain ⟨hj, e⟩ := List.getElem?_eq_some_iff.1 h
  rw [List.take_succ_eq_append_getElem hj, e, List.foldl_append]
  rfl
end Go.Proofs.YtdgmdpphimenjaaGreatDoor.Fl9

/-
  Layer 9: the document's down walked.
-/
namespace Go.Proofs.YtdgmdpphimenjaaGreatDoor.Fl9
open Go.RowKit Api Mem

theorem info_int9 : (Tryz.prog.info? 3).map (fun i => (i.zero, i.size, i.bytes)) = some (some (.int .i64 0), 1, 8) := by kernel_rfl
theorem info_bool9 : (Tryz.prog.info? 4).map (fun i => (i.zero, i.size, i.bytes)) = some (some (.bool false), 1, 1) := by kernel_rfl
/-- 'append(s, x)' of one thing onto a row of the call's own. -/
theorem push_own9 {P : Program} {w : World} {ops : Array Oper} {rest : List Oper} {o : Oper} {a : Go.Act} {Q : Exit → Go.Act → World → Prop} (hgd : o.guard = none) (s x : Operand) (t : TypeId)
    (ho : o.op = .call { callee := .builtin .append, args := #[s, x], argTypes := #[t, t] })
    (base : Nat) (e : TypeId) (z : Value) (size bytes : Nat) (ht : P.underlying t = some (.slice e)) (hinf : (P.info? e).map (fun i => (i.zero, i.size, i.bytes)) = some (some z, size, bytes)) (hzs : z.cells.size = size) (hsz : 0 < size)
    (v : Value) (n : Nat) (xs : List Value) (hs : a.eval s = v) (hown : w.ownsRow base e size v n xs)
    (news : List Value) (k : Nat) (hk : k = w.heap.size) (hx : a.eval x = .slice (some ⟨k, 0, none⟩) 1 1) (hl : news.length = size) (h1 : ∀ u ∈ news, u.oneCell' = true)
    (h63 : n + 1 ≤ maxLen) (hbytes : (n + 1) * bytes ≤ 140737488355328) (hbase : base ≤ w.heap.size)
    (h : ∀ v' w', w'.ownsRow base e size v' (n + 1) (xs ++ news) → w.grownBy w' v.ownBlock → wpList P ops Q rest (a.put o.dst v') w') :
    wpList P ops Q (o :: rest) a (w.alloc (.cells news.toArray e)) := by
  subst hk
  obtain ⟨i, hi, hz0, hz1, hz2⟩ := info_parts hinf
  refine wpList_append_own (w := w.alloc (.cells news.toArray e)) hgd s x t ho base e i z size bytes ht hi hz0 hz1 hz2 hzs hsz v n xs hs (hown.alloc _) ⟨w.heap.size, 0, none⟩ 1 1 news hx (by omega) ?_ h1 h63 hbytes (by simp; omega) ?_
  · intro j u hu
    have e1 : (⟨w.heap.size, 0, none⟩ : Addr).add j = ⟨w.heap.size, j, none⟩ := by unfold Addr.add; split <;> simp_all
    rw [e1, (Own.made w e news).cell]
    exact hu
  · intro v' w' h2 h3 _
    exact h v' w' h2 ((World.grownBy_alloc w _ _).trans h3)
/-- 'append(s, x...)' of cells that are read. -/
theorem read_own9 {P : Program} {w : World} {ops : Array Oper} {rest : List Oper} {o : Oper} {a : Go.Act} {Q : Exit → Go.Act → World → Prop} (hgd : o.guard = none) (s x : Operand) (t : TypeId)
    (ho : o.op = .call { callee := .builtin .append, args := #[s, x], argTypes := #[t, t] })
    (base : Nat) (e : TypeId) (z : Value) (size bytes : Nat) (ht : P.underlying t = some (.slice e)) (hinf : (P.info? e).map (fun i => (i.zero, i.size, i.bytes)) = some (some z, size, bytes)) (hzs : z.cells.size = size) (hsz : 0 < size)
    (v : Value) (n : Nat) (xs : List Value) (hs : a.eval s = v) (hown : w.ownsRow base e size v n xs)
    (b off m cap : Nat) (news : List Value) (hx : a.eval x = .slice (some ⟨b, off, none⟩) m cap) (hl : news.length = m * size) (hc : ∀ j u, news[j]? = some u → w.cell? ⟨b, off + j, none⟩ = some u) (h1 : ∀ u ∈ news, u.oneCell' = true)
    (h63 : n + m ≤ maxLen) (hbytes : (n + m) * bytes ≤ 140737488355328) (hbase : base ≤ w.heap.size)
    (h : ∀ v' w', w'.ownsRow base e size v' (n + m) (xs ++ news) → w.grownBy w' v.ownBlock → wpList P ops Q rest (a.put o.dst v') w') :
    wpList P ops Q (o :: rest) a w := by
  obtain ⟨i, hi, hz0, hz1, hz2⟩ := info_parts hinf
  refine wpList_append_own (w := w) hgd s x t ho base e i z size bytes ht hi hz0 hz1 hz2 hzs hsz v n xs hs hown ⟨b, off, none⟩ m cap news hx hl (fun j u hu => ?_) h1 h63 hbytes hbase ?_
  · have e1 : (⟨b, off, none⟩ : Addr).add j = ⟨b, off + j, none⟩ := by unfold Addr.add; split <;> simp_all
    rw [e1]; exact hc j u hu
  · intro v' w' h2 h3 _
    exact h v' w' h2 h3
theorem form9 {w : World} {base : Nat} {e : TypeId} {size : Nat} {v : Value} {n : Nat} {xs : List Value} (h : w.ownsRow base e size v n xs) (h0 : 0 < n) : ∃ g cap, v = .slice (some ⟨g, 0, none⟩) n cap ∧ base ≤ g ∧ g < w.heap.size ∧ n ≤ cap := by
  rcases h.2 with ⟨_, rfl⟩ | ⟨g, cap, cur, rfl, hb, hg, hnc, _⟩
  · omega
  · exact ⟨g, cap, rfl, hb, (Array.getElem?_eq_some_iff.1 hg).1, hnc⟩
theorem any9 {w : World} {base : Nat} {e : TypeId} {size : Nat} {v : Value} {n : Nat} {xs : List Value} (h : w.ownsRow base e size v n xs) : ∃ A cap, v = .slice A n cap := by
  rcases h.2 with ⟨rfl, rfl⟩ | ⟨g, cap, cur, rfl, _⟩
  · exact ⟨_, _, rfl⟩
  · exact ⟨_, _, rfl⟩
theorem kept_other9 {w w' : World} {base e e2 size n size2 n2 : Nat} {v v2 : Value} {xs ys : List Value} (h : w.ownsRow base e size v n xs) (h2 : w.ownsRow base e2 size2 v2 n2 ys) (hne : e ≠ e2) (hg : w.grownBy w' v2.ownBlock) : w'.ownsRow base e size v n xs := h.kept hg (by
  rcases h.2 with ⟨rfl, _⟩ | ⟨k, cap, cur, rfl, hb, hk, r⟩
  · exact .inl rfl
  · right
    rcases h2.2 with ⟨rfl, _⟩ | ⟨k2, cap2, cur2, rfl, _, hk2, _⟩
    · simp [Value.ownBlock]
    · intro e9
      simp only [Value.ownBlock, Option.some.injEq] at e9
      subst e9
      rw [hk] at hk2
      simp only [Option.some.injEq, Obj.cells.injEq] at hk2
      exact hne hk2.2.1)
theorem kept_none9 {w w' : World} {base e size n : Nat} {v : Value} {xs : List Value} (h : w.ownsRow base e size v n xs) (hg : w.grownBy w' none) : w'.ownsRow base e size v n xs := h.kept hg (by
  cases v.ownBlock with
  | none => exact .inl rfl
  | some k => exact .inr (by simp))
theorem set_other9 {w : World} {base e e2 size n n2 c2 g i : Nat} {v u : Value} {xs ys : List Value} (h : w.ownsRow base e size v n xs) (h2 : w.ownsRow base e2 1 (.slice (some ⟨g, 0, none⟩) n2 c2) n2 ys) (hne : e ≠ e2) : (w.setCell ⟨g, i, none⟩ u).ownsRow base e size v n xs := by
  refine ⟨h.1, ?_⟩
  rcases h.2 with hn | ⟨k, cap, cur, rfl, hb, hk, r⟩
  · exact .inl hn
  · refine .inr ⟨k, cap, cur, rfl, hb, ?_, r⟩
    have hkg : k ≠ g := by
      rintro rfl
      rcases h2.2 with ⟨e9, _⟩ | ⟨k2, cap2, cur2, e9, _, hk2, _⟩
      · cases e9
      · simp only [Value.slice.injEq, Option.some.injEq, Addr.mk.injEq, and_true, true_and] at e9
        obtain ⟨rfl, _⟩ := e9
        rw [hk] at hk2
        simp only [Option.some.injEq, Obj.cells.injEq] at hk2
        exact hne hk2.2.1
    exact (RowKit.Below.heap_setCell _ _ _ _ (show k ≠ g from hkg)).trans hk
abbrev bC (m : List Bool) : List Value := m.map Value.bool
abbrev iC (l : List Int) : List Value := l.map i64
/-- what going down answers. -/
def DownP (base n : Nat) (r : List Bool × List Int) (w : World) (e : Ending) (w' : World) : Prop := ∃ vm vl, e = .returned (.tuple #[vm, vl]) ∧ w'.ownsRow base 4 1 vm n (bC r.1) ∧ w'.ownsRow base 3 1 vl r.2.length (iC r.2) ∧ Below base w w' ∧ w.heap.size ≤ w'.heap.size
end Go.Proofs.YtdgmdpphimenjaaGreatDoor.Fl9

/-
  Layer 9: going down with a stack, as a plain invariant: it comes to what the recursion does.
-/
namespace Go.Proofs.YtdgmdpphimenjaaGreatDoor.Fl9

theorem un_le : ∀ m : List Bool, un m ≤ m.length
  | [] => Nat.le_refl _
  | b :: r => by
    have := un_le r
    unfold un
    simp only [List.length_cons]
    split <;> omega
/-- more fuel changes nothing. -/
theorem fold_fuel {n f : Nat} {r1 r2 : Nat → List Bool → List Int → List Bool × List Int} {m : List Bool} {l : List Int} (hr : Good n f r2)
    (he : ∀ p m l, m[p]? = some false → un m ≤ f → m.length = n → r1 p m l = r2 p m l) : ∀ (ks : List Int) {s : List Bool × List Int}, Dn n f m l s → ks.foldl (stepV n r1) s = ks.foldl (stepV n r2) s
  | [], _, _ => rfl
  | k :: ks, s, h => by
    have e : stepV n r1 s k = stepV n r2 s k := by
      unfold stepV
      split
      · rename_i hk
        exact he _ _ _ hk.2.2 h.fuel h.len
      · rfl
    rw [List.foldl_cons, List.foldl_cons, e]
    exact fold_fuel hr he ks (h.step hr k)
theorem down_fuel (g : List (List Int)) : ∀ f p m l, m[p]? = some false → un m ≤ f → m.length = g.length → downV g (f + 1) p m l = downV g f p m l
  | 0, p, m, l, hp, hf, hl => by
    have := un_set hp
    omega
  | f + 1, p, m, l, hp, hf, hl => by
    have h := fold_fuel (down_good g f) (down_fuel g f) (g.getD p []) (Dn.start (l := l) hp hf hl)
    show downV g (f + 1 + 1) p m l = downV g (f + 1) p m l
    rw [downV, downV, h]
/-- what is left to do with a stack, its top first, of which the points' lists are gone through so far. -/
def finV (g : List (List Int)) (F : Nat) (c : List Nat) : List Nat → List Bool × List Int → List Bool × List Int
  | [], s => s
  | p :: r, s => finV g F c r ((((g.getD p []).drop (c.getD p 0)).foldl (stepV g.length (downV g F)) s).1, (((g.getD p []).drop (c.getD p 0)).foldl (stepV g.length (downV g F)) s).2 ++ [(p : Int)])
theorem fin_set {g : List (List Int)} {F : Nat} {c : List Nat} {p k : Nat} : ∀ {r : List Nat} {s : List Bool × List Int}, p ∉ r → finV g F (c.set p k) r s = finV g F c r s
  | [], _, _ => rfl
  | q :: r, s, h => by
    have hq : p ≠ q := fun e => h (by simp [e])
    have e : (c.set p k).getD q 0 = c.getD q 0 := by
      rw [List.getD_eq_getElem?_getD, List.getD_eq_getElem?_getD, List.getElem?_set_ne hq]
    rw [finV, finV, e]
    exact fin_set (fun h2 => h (by simp [h2]))
def startV (g : List (List Int)) : List Bool × List Int := downV g g.length 0 (List.replicate g.length false) []
structure It (g : List (List Int)) (m : List Bool) (l : List Int) (c T : List Nat) : Prop where
  lm : m.length = g.length
  lc : c.length = g.length
  nd : T.Nodup
  stk : ∀ p ∈ T, m[p]? = some true
  cz : ∀ p : Nat, m[p]? = some false → c[p]? = some 0
  cb : ∀ (p k : Nat), c[p]? = some k → k ≤ (g.getD p []).length
  sum : l.length + un m + T.length = g.length
  fin : finV g g.length c T (m, l) = startV g
theorem un_none : ∀ n, un (List.replicate n false) = n
  | 0 => rfl
  | n + 1 => by simp [List.replicate_succ, un, un_none n]; omega
/-- the list of a point that was not marked: gone through from the point's own marking on. -/
theorem down_open (g : List (List Int)) {q : Nat} {m : List Bool} {l : List Int} (hq : m[q]? = some false) (hl : m.length = g.length) :
    downV g g.length q m l = (((g.getD q []).foldl (stepV g.length (downV g g.length)) (m.set q true, l)).1, ((g.getD q []).foldl (stepV g.length (downV g g.length)) (m.set q true, l)).2 ++ [(q : Int)]) := by
  have hu := un_le m
  obtain ⟨F, hF⟩ : ∃ F, g.length = F + 1 := ⟨g.length - 1, by have := un_set hq; omega⟩
  have h := fold_fuel (down_good g F) (down_fuel g F) (g.getD q []) (Dn.start (l := l) (f := F) hq (by omega) hl)
  have e : downV g g.length = downV g (F + 1) := by rw [hF]
  rw [e, h]
  rfl
theorem it_start {g : List (List Int)} (h0 : g.length ≠ 0) : It g ((List.replicate g.length false).set 0 true) [] (List.replicate g.length 0) [0] := by
  have hq : (List.replicate g.length false)[0]? = some false := by rw [List.getElem?_replicate, if_pos (by omega)]
  have hu := un_set hq
  rw [un_none] at hu
  refine ⟨by simp, by simp, by simp, fun p hp => ?_, fun p hp => ?_, fun p k hk => ?_, by simp; omega, ?_⟩
  · simp at hp
    subst hp
    rw [List.getElem?_set_self (by simp; omega)]
  · have hp2 := (List.getElem?_eq_some_iff.1 hp).1
    simp at hp2
    rw [List.getElem?_replicate, if_pos hp2]
  · rw [List.getElem?_replicate] at hk
    split at hk
    · cases hk; exact Nat.zero_le _
    · cases hk
  · unfold startV
    rw [down_open g hq (by simp)]
    have e : (List.replicate g.length 0).getD 0 0 = 0 := by
      rw [List.getD_eq_getElem?_getD, List.getElem?_replicate, if_pos (by omega)]; rfl
    rw [finV, finV, e, List.drop_zero]
theorem It.pop {g : List (List Int)} {m : List Bool} {l : List Int} {c T : List Nat} {p : Nat} (h : It g m l c (p :: T)) (hc : c[p]? = some (g.getD p []).length) : It g m (l ++ [(p : Int)]) c T := by
  refine ⟨h.lm, h.lc, (List.nodup_cons.1 h.nd).2, fun q hq => h.stk q (by simp [hq]), h.cz, h.cb, by have := h.sum; simp only [List.length_cons, List.length_append, List.length_nil] at this ⊢; omega, ?_⟩
  have hf := h.fin
  rw [finV, List.getD_eq_getElem?_getD (l := c), hc, Option.getD_some, List.drop_length, List.foldl_nil] at hf
  exact hf
theorem getD_set_self {c : List Nat} {p k : Nat} (hp : p < c.length) : (c.set p k).getD p 0 = k := by
  rw [List.getD_eq_getElem?_getD, List.getElem?_set_self hp]; rfl
theorem drop_at {l : List Int} {k : Nat} {x : Int} (h : l[k]? = some x) : l.drop k = x :: l.drop (k + 1) := by
  obtain ⟨hk, e⟩ := List.getElem?_eq_some_iff.1 h
  rw [List.drop_eq_getElem_cons hk, e]
theorem It.cset {g : List (List Int)} {m : List Bool} {l : List Int} {c T : List Nat} {p k : Nat} {x : Int} (h : It g m l c (p :: T)) (hx : (g.getD p [])[k]? = some x) : (∀ q : Nat, m[q]? = some false → (c.set p (k + 1))[q]? = some 0) ∧ (∀ (q j : Nat), (c.set p (k + 1))[q]? = some j → j ≤ (g.getD q []).length) := by
  have hm := h.stk p (by simp)
  refine ⟨fun q hq => ?_, fun q j hj => ?_⟩
  · have : p ≠ q := fun e => by rw [← e, hm] at hq; cases hq
    rw [List.getElem?_set_ne this]
    exact h.cz q hq
  · by_cases e : p = q
    · subst e
      have hp : p < c.length := by have := (List.getElem?_eq_some_iff.1 hj).1; simpa using this
      rw [List.getElem?_set_self hp] at hj
      cases hj
      exact (List.getElem?_eq_some_iff.1 hx).1
    · rw [List.getElem?_set_ne e] at hj
      exact h.cb q j hj
theorem It.skip {g : List (List Int)} {m : List Bool} {l : List Int} {c T : List Nat} {p k : Nat} {x : Int} (h : It g m l c (p :: T)) (hc : c[p]? = some k) (hx : (g.getD p [])[k]? = some x) (hn : ¬ (0 ≤ x ∧ x < (g.length : Int) ∧ m[x.toNat]? = some false)) : It g m l (c.set p (k + 1)) (p :: T) := by
  obtain ⟨h1, h2⟩ := h.cset hx
  refine ⟨h.lm, by simp [h.lc], h.nd, h.stk, h1, h2, h.sum, ?_⟩
  have hf := h.fin
  have hp : p < c.length := (List.getElem?_eq_some_iff.1 hc).1
  have e : stepV g.length (downV g g.length) (m, l) x = (m, l) := by unfold stepV; rw [if_neg hn]
  rw [finV, List.getD_eq_getElem?_getD (l := c), hc, Option.getD_some, drop_at hx, List.foldl_cons, e] at hf
  rw [finV, getD_set_self hp, fin_set (List.nodup_cons.1 h.nd).1]
  exact hf
theorem It.push {g : List (List Int)} {m : List Bool} {l : List Int} {c T : List Nat} {p k q : Nat} (h : It g m l c (p :: T)) (hc : c[p]? = some k) (hx : (g.getD p [])[k]? = some (q : Int)) (hq : m[q]? = some false) : It g (m.set q true) l (c.set p (k + 1)) (q :: p :: T) := by
  obtain ⟨h1, h2⟩ := h.cset hx
  have hm := h.stk p (by simp)
  have hne : p ≠ q := fun e => by rw [e, hq] at hm; cases hm
  have hql : q < m.length := (List.getElem?_eq_some_iff.1 hq).1
  have hu := un_set hq
  refine ⟨by simp [h.lm], by simp [h.lc], List.nodup_cons.2 ⟨fun hmem => ?_, h.nd⟩, fun r hr => ?_, fun r hr => ?_, h2, ?_, ?_⟩
  · have := h.stk q hmem
    rw [hq] at this
    cases this
  · by_cases e : q = r
    · subst e; rw [List.getElem?_set_self hql]
    · rw [List.getElem?_set_ne e]
      exact h.stk r (by simpa [Ne.symm e] using hr)
  · by_cases e : q = r
    · subst e; rw [List.getElem?_set_self hql] at hr; cases hr
    · rw [List.getElem?_set_ne e] at hr
      exact h1 r hr
  · have := h.sum
    simp only [List.length_cons] at this ⊢
    omega
  · have hf := h.fin
    have hp : p < c.length := (List.getElem?_eq_some_iff.1 hc).1
    have e : stepV g.length (downV g g.length) (m, l) (q : Int) = downV g g.length q m l := by
      unfold stepV
      rw [if_pos ⟨by omega, by have := h.lm; omega, by rw [Int.toNat_natCast]; exact hq⟩, Int.toNat_natCast]
    rw [finV, List.getD_eq_getElem?_getD (l := c), hc, Option.getD_some, drop_at hx, List.foldl_cons, e, down_open g hq h.lm] at hf
    have e0 : (c.set p (k + 1)).getD q 0 = 0 := by
      rw [List.getD_eq_getElem?_getD, List.getElem?_set_ne hne, h.cz q hq]; rfl
    rw [finV, e0, List.drop_zero, finV, getD_set_self hp, fin_set (List.nodup_cons.1 h.nd).1]
    exact hf
/-- how much is left to look at. -/
def remV : List (List Int) → List Nat → Nat
  | a :: g, k :: c => (a.length - k) + remV g c
  | _, _ => 0
theorem rem_set : ∀ {g : List (List Int)} {c : List Nat} {p k : Nat} {a : List Int}, c[p]? = some k → g[p]? = some a → k < a.length → remV g (c.set p (k + 1)) + 1 = remV g c
  | [], _, p, _, _, _, h, _ => by simp at h
  | _ :: _, [], p, _, _, h, _, _ => by simp at h
  | b :: g, j :: c, 0, k, a, hc, hg, hk => by
    simp at hc hg
    subst hc
    subst hg
    simp only [List.set_cons_zero, remV]
    omega
  | b :: g, j :: c, p + 1, k, a, hc, hg, hk => by
    have := rem_set (g := g) (c := c) (p := p) (by simpa using hc) (by simpa using hg) hk
    simp only [List.set_cons_succ, remV]
    omega
end Go.Proofs.YtdgmdpphimenjaaGreatDoor.Fl9

/-
  Layer 9: the document's Come and Order.
-/
namespace Go.Proofs.YtdgmdpphimenjaaGreatDoor.Fl9
open Go.RowKit Api Mem

theorem run_row9 {P : Program} {t e : TypeId} {z : Value} {bytes : Nat} (ht : P.underlying t = some (.slice e)) (hinf : (P.info? e).map (fun i => (i.zero, i.size, i.bytes)) = some (some z, 1, bytes)) (hzc : z.cells = #[z]) (hby : bytes ≤ 64) (n : Nat) (hn : n ≤ 1099511627776) (w : World) :
    (Instr.makeSlice t (.int .i64 (n : Int)) (.int .i64 (n : Int))).run P w = .ok (.slice (some ⟨w.heap.size, 0, none⟩) n n) (w.alloc (.cells (List.replicate n z).toArray e)) := by
  obtain ⟨i0, hi, hz0, hz1, hz2⟩ := info_parts hinf
  have h := run_make (P := P) w t e i0 z ht hi hz0 .i64 .i64 (n : Int) (n : Int) (by omega) (by omega) (by
    rw [hz2]
    have : bytes * n ≤ 64 * 1099511627776 := Nat.mul_le_mul hby hn
    have h2 : ((bytes * n : Nat) : Int) ≤ 281474976710656 := by omega
    rwa [Int.natCast_mul] at h2) (by omega)
  rw [hz1, hzc] at h
  have e1 : madeCells #[z] n = (List.replicate n z).toArray := by rw [← toList_madeCells_one]
  simp only [Int.toNat_natCast, Nat.mul_one, e1] at h
  exact h
def comeV (g : List (List Int)) : List Bool := if g.length = 0 then [] else (startV g).1
def orderV (g : List (List Int)) : List Int := if g.length = 0 then [] else (startV g).2.reverse
theorem row_made9 {w w' : World} {e : TypeId} {z : Value} (n b : Nat) (h : w.alloc (.cells (List.replicate n z).toArray e) = w') (hb : b = w.heap.size) (hn : n ≤ 1000) : w'.ownsRow b e 1 (.slice (some ⟨b, 0, none⟩) n n) n (List.replicate n z) := by
  subst h
  subst hb
  have := World.ownsRow_lit (base := w.heap.size) (e := e) (size := 1) w (List.replicate n z).toArray n (Nat.le_refl _) (by unfold maxLen; omega) (by simp)
  simpa using this
theorem row_below9 {w w' : World} {base e size n : Nat} {v : Value} {xs : List Value} (h : w.ownsRow base e size v n xs) (hb : Below w.heap.size w w') : w'.ownsRow base e size v n xs := by
  refine ⟨h.1, ?_⟩
  rcases h.2 with hn | ⟨k, cap, cur, rfl, hbk, hk, r⟩
  · exact .inl hn
  · exact .inr ⟨k, cap, cur, rfl, hbk, (hb.block k (Array.getElem?_eq_some_iff.1 hk).1).trans hk, r⟩
theorem drop_rev {l : List Int} {k : Nat} {x : Int} (h : l[k]? = some x) : (l.drop k).reverse = (l.drop (k + 1)).reverse ++ [x] := by
  obtain ⟨hk, e⟩ := List.getElem?_eq_some_iff.1 h
  rw [List.drop_eq_getElem_cons hk, e, List.reverse_cons]
end Go.Proofs.YtdgmdpphimenjaaGreatDoor.Fl9

/-
  Layer 9: package flow walked: what is a point, and going down with a stack.
-/
namespace Go.Proofs.YtdgmdpphimenjaaGreatDoor.Fl9
open Go.RowKit Api Mem

set_option maxRecDepth 100000 in
set_option maxHeartbeats 8000000 in
theorem isPoint_any (w : World) (A : Option Addr) (n cap : Nat) (_ : n ≤ 4611686018427387903) (x : Int) :
    Calls Tryz.prog 83 #[.slice A n cap, i64 x] w fun e w' => e = .returned (.bool (decide (0 ≤ x ∧ x < (n : Int)))) ∧ w = w' := by
  by_cases h1 : 0 ≤ x
  · by_cases h2 : x < (n : Int)
    · have e1 : decide ((0 : Int) ≤ x) = true := decide_eq_true h1
      have e2 : decide (x < (n : Int)) = true := decide_eq_true h2
      have e3 : decide (0 ≤ x ∧ x < (n : Int)) = true := decide_eq_true ⟨h1, h2⟩
      rw [e3]
      clear h1 h2 e3
      go_enter Tryz.func83, Tryz.ntmps83
      go_wp2_with fail
      go_ret
      exact ⟨rfl, rfl⟩
    · have e1 : decide ((0 : Int) ≤ x) = true := decide_eq_true h1
      have e2 : decide (x < (n : Int)) = false := decide_eq_false h2
      have e3 : decide (0 ≤ x ∧ x < (n : Int)) = false := decide_eq_false (fun h => h2 h.2)
      rw [e3]
      clear h1 h2 e3
      go_enter Tryz.func83, Tryz.ntmps83
      go_wp2_with fail
      go_ret
      exact ⟨rfl, rfl⟩
  · have e1 : decide ((0 : Int) ≤ x) = false := decide_eq_false h1
    have e3 : decide (0 ≤ x ∧ x < (n : Int)) = false := decide_eq_false (fun h => h1 h.1)
    rw [e3]
    clear h1 e3
    go_enter Tryz.func83, Tryz.ntmps83
    go_wp2_with fail
    go_ret
    exact ⟨rfl, rfl⟩
theorem pop_own9 {w : World} {base : Nat} {e : TypeId} {v : Value} {s : Nat} {xs : List Value} {u : Value} (h : w.ownsRow base e 1 v (s + 1) (xs ++ [u])) : ∃ g cap, v = .slice (some ⟨g, 0, none⟩) (s + 1) cap ∧ base ≤ g ∧ g < w.heap.size ∧ s + 1 ≤ cap ∧ w.cell? ⟨g, s, none⟩ = some u ∧ w.ownsRow base e 1 (.slice (some ⟨g, 0, none⟩) s cap) s xs := by
  have hl := h.1
  simp at hl
  rcases h.2 with ⟨_, h0⟩ | ⟨g, cap, cur, rfl, hb, hg, hnc, hcm, hcs, ht⟩
  · omega
  · refine ⟨g, cap, rfl, hb, (Array.getElem?_eq_some_iff.1 hg).1, hnc, ?_, ⟨by omega, .inr ⟨g, cap, cur, rfl, hb, hg, by omega, hcm, hcs, ?_⟩⟩⟩
    · rw [h.cellAt s (by omega), List.getElem?_append_right (by omega)]
      simp [hl]
    · have h2 := congrArg (List.take (s * 1)) ht
      rw [List.take_take] at h2
      have e1 : min (s * 1) ((s + 1) * 1) = s * 1 := by omega
      rw [e1] at h2
      rw [h2, List.take_left' (by omega)]
/-- the first row without its last element. -/
theorem apart_pop {w : World} {base : Nat} {t : TypeId} {v : Value} {s : Nat} {xs : List Value} {u : Value} {R : List Hold.Rec} (h : Hold.Apart w base (⟨t, 1, v, s + 1, xs ++ [u]⟩ :: R)) : ∃ g cap, v = .slice (some ⟨g, 0, none⟩) (s + 1) cap ∧ s + 1 ≤ cap ∧ w.cell? ⟨g, s, none⟩ = some u ∧ Hold.Apart w base (⟨t, 1, .slice (some ⟨g, 0, none⟩) s cap, s, xs⟩ :: R) := by
  obtain ⟨g, cap, rfl, h1, h2, h3, h4, h5⟩ := pop_own9 h.head
  refine ⟨g, cap, rfl, h3, h4, fun x hx => ?_, ?_⟩
  · rcases List.mem_cons.1 hx with rfl | hx
    · exact h5
    · exact h.1 x (by simp [hx])
  · have := h.2
    simpa [Value.ownBlock] using this
abbrev nC (l : List Nat) : List Value := l.map fun (p : Nat) => i64 (p : Int)
theorem start9 (w : World) (n b : Nat) (hb : w.heap.size = b) (W : World) (h : ((w.alloc (.cells (bC ((List.replicate n false).set 0 true)).toArray 4)).alloc (.cells (nC (List.replicate n 0)).toArray 3)).alloc (.cells #[i64 0] 3) = W) :
    Own W b 4 (bC ((List.replicate n false).set 0 true)) ∧ Own W (b + 1) 3 (nC (List.replicate n 0)) ∧ Hold.Apart W (b + 2) [⟨3, 1, .slice (some ⟨b + 1 + 1, 0, none⟩) 1 1, 1, nC [0]⟩, ⟨3, 1, .slice none 0 0, 0, iC []⟩] ∧ Below b w W := by
  subst hb
  subst h
  refine ⟨((Own.made w _ _).alloc _).alloc _, ?_, ⟨fun x hx => ?_, ?_⟩, (((Below.refl _ _).alloc (Nat.le_refl _) _).alloc (by simp) _).alloc (by simp; omega) _⟩
  · have := Own.made (w.alloc (.cells (bC ((List.replicate n false).set 0 true)).toArray 4)) 3 (nC (List.replicate n 0))
    have h2 := this.alloc (.cells #[i64 0] 3)
    simpa using h2
  · simp only [List.mem_cons, List.not_mem_nil, or_false] at hx
    rcases hx with rfl | rfl
    · have := World.ownsRow_lit (base := w.heap.size + 2) (e := 3) (size := 1) ((w.alloc (.cells (bC ((List.replicate n false).set 0 true)).toArray 4)).alloc (.cells (nC (List.replicate n 0)).toArray 3)) #[i64 0] 1 (by simp) (by unfold maxLen; omega) rfl
      simpa [Hold.Rec.on, nC] using this
    · exact World.ownsRow_nil _ _ _ _
  · simp [Value.ownBlock]
/-- 'append(s, x)' of one element that lies in a block of its own: the first row grows, the others stand. -/
theorem grow9 {P : Program} {w : World} {ops : Array Oper} {rest : List Oper} {o : Oper} {a : Go.Act} {Q : Exit → Go.Act → World → Prop} {R : List Hold.Rec} (hgd : o.guard = none) (s x : Operand) (t : TypeId)
    (ho : o.op = .call { callee := .builtin .append, args := #[s, x], argTypes := #[t, t] })
    (base : Nat) (e : TypeId) (z : Value) (size bytes : Nat) (ht : P.underlying t = some (.slice e)) (hinf : (P.info? e).map (fun i => (i.zero, i.size, i.bytes)) = some (some z, size, bytes)) (hzs : z.cells.size = size) (hsz : 0 < size)
    (v : Value) (n : Nat) (xs : List Value) (hs : a.eval s = v)
    (news : List Value) (k : Nat) (hx : a.eval x = .slice (some ⟨k, 0, none⟩) 1 1) (hl : news.length = size) (h1 : ∀ u ∈ news, u.oneCell' = true)
    (h63 : n + 1 ≤ 9223372036854775807) (hbytes : (n + 1) * bytes ≤ 140737488355328)
    (hown : Hold.Apart w base (⟨e, size, v, n, xs⟩ :: R)) (hk : Own w k e news) (hbase : base ≤ w.heap.size)
    (h : ∀ v' w', Hold.Apart w' base (⟨e, size, v', n + 1, xs ++ news⟩ :: R) → Below base w w' → wpList P ops Q rest (a.put o.dst v') w') :
    wpList P ops Q (o :: rest) a w := by
  obtain ⟨i, hi, hz, hsize, hby⟩ := info_parts hinf
  have ho2 : w.ownsRow base e size v n xs := hown.head
  have hnews : ∀ (j : Nat) (u : Value), news[j]? = some u → w.cell? ((⟨k, 0, none⟩ : Addr).add j) = some u := by
    intro j u hu
    have e1 : (⟨k, 0, none⟩ : Addr).add j = ⟨k, j, none⟩ := by unfold Addr.add; split <;> simp_all
    rw [e1, hk.cell]
    exact hu
  refine wpList_plain hgd fun K hK => ?_
  obtain ⟨v', w', hr, h2, h3, _⟩ := run_append_own (P := P) w base t o.type e i z size bytes ht hi hz hsize hby hzs hsz v n xs ho2 ⟨k, 0, none⟩ 1 1 news (by omega) hnews h1 (by unfold maxLen; omega) hbytes hbase
  obtain ⟨v2, w2, hr2, h4⟩ := Hold.append_block (P := P) w base t o.type e i z ht hi hz v n xs (by rw [hsize]; exact ho2) ⟨k, 0, none⟩ 1 1 news (by omega) hnews h1 (by omega) h63 (by rw [hby]; exact hbytes)
  have e3 : v2 = v' := by
    rw [hr] at hr2
    injection hr2 with e1 _
    exact e1.symm
  subst e3
  have ha := hown.grow h3 h2 (by
    rcases h4 with h4 | h4
    · exact .inl h4
    · right; intro k hk; rw [h4] at hk; injection hk with hk; subst hk; exact Nat.le_refl _)
  have hb2 : Below base w w' := (Below.refl base w).grown h3 hbase fun k hk => (World.ownsRow.lt ho2 k hk).1
  unfold Oper.wp execOp
  simp only [ho, resolve, invoke, builtin, Sem.run_bind, Sem.run_pure, Result.andThen_ok, List.map_toArray, List.map_cons, List.map_nil, hs, hx, hr]
  exact hK _ _ (h v2 w' ha hb2)
theorem made_two9 (w : World) (k : Nat) (hk : k = w.heap.size) (t : TypeId) (cs : List Value) : Own (w.alloc (.cells cs.toArray t)).drew.drew k t cs := by subst hk; exact (Own.made w t cs).drew.drew
theorem below_two9 (w : World) (o : Obj) : Below w.heap.size w (w.alloc o).drew.drew := ((Below.refl _ _).alloc (Nat.le_refl _) _).drew.drew
theorem apart_set9 {w : World} {base : Nat} {R : List Hold.Rec} (h : Hold.Apart w base R) {a : Addr} (ha : a.block < base) (u : Value) : Hold.Apart (w.setCell a u) base R := ⟨fun x hx => RowKit.ownsRow_setCell_below (h.1 x hx) ha u, h.2⟩
theorem made_below9 (w : World) (o : Obj) : Below w.heap.size w (w.alloc o).drew := ((Below.refl _ _).alloc (Nat.le_refl _) _).drew
theorem info_in9 : ∃ i, Tryz.prog.info? 3 = some i ∧ i.zero = some (.int .i64 0) ∧ i.size = 1 ∧ i.bytes = 8 := by
  obtain ⟨i, h1, h2, h3, h4⟩ := info_parts info_int9
  exact ⟨i, h1, h2, h3, h4⟩
set_option maxRecDepth 100000 in
set_option maxHeartbeats 16000000 in
theorem down_prog (lo hi : Nat) (w : World) (v : Value) (g : List (List Int)) (hg : Graph lo hi w v g) (hh : hi ≤ w.heap.size) (hn : g.length ≤ 1000) :
    Calls Tryz.prog 52 #[v] w (DownP w.heap.size g.length (startV g) w) := by
  obtain ⟨A1, k1, rfl⟩ := Row.form hg
  have hmm := fun (w : World) => run_row9 (P := Tryz.prog) (t := 85) Tryz.underlying85 info_bool9 rfl (by decide) g.length (by omega) w
  have hmi := fun (w : World) => run_row9 (P := Tryz.prog) (t := 105) Tryz.underlying105 info_int9 rfl (by decide) g.length (by omega) w
  by_cases h0 : g.length = 0
  · have e0 : ((g.length : Int) == 0) = true := by rw [h0]; rfl
    have HG := Lib.hid hg
    have H0 := Lib.hid h0
    have HN := Lib.hid hn
    clear h0 hg
    go_enter Tryz.func52, Tryz.ntmps52
    go_wp2_with fail
    go_ret2
    have e : startV g = ([], []) := by
      have h0 := H0.out
      obtain rfl : g = [] := List.eq_nil_of_length_eq_zero h0
      rfl
    rw [e]
    refine ⟨_, _, rfl, ?_, World.ownsRow_nil _ _ _ _, (Below.refl _ _).alloc (Nat.le_refl _) _, by simp⟩
    have h := row_made9 (w := w) (e := 4) (z := .bool false) g.length w.heap.size rfl rfl (by have := HN.out; omega)
    have e2 : List.replicate g.length (Value.bool false) = bC [] := by rw [H0.out]; rfl
    rw [e2] at h
    simpa [H0.out] using h
  · have e0 : ((g.length : Int) == 0) = false := by rw [beq_eq_false_iff_ne]; omega
    have hpos : 0 < g.length := by omega
    have HG := Lib.hid hg
    have H0 := Lib.hid h0
    have HN := Lib.hid hn
    clear h0 hg
    go_enter Tryz.func52, Tryz.ntmps52
    go_wp2_with fail
    rw [show (Array.replicate g.length (Value.bool false)).setIfInBounds 0 (.bool true) = (bC ((List.replicate g.length false).set 0 true)).toArray by apply Array.ext'; simp [bC]]
    rw [show Array.replicate g.length (Value.int IntKind.i64 0) = (nC (List.replicate g.length 0)).toArray by apply Array.ext'; simp [nC]]
    obtain ⟨W, hW⟩ : ∃ W, ((w.alloc (.cells (bC ((List.replicate g.length false).set 0 true)).toArray 4)).alloc (.cells (nC (List.replicate g.length 0)).toArray 3)).alloc (.cells #[i64 0] 3) = W := ⟨_, rfl⟩
    obtain ⟨s1, s2, s3, s4⟩ := start9 w g.length _ rfl W hW
    have HS1 := Lib.hid s1
    have HS2 := Lib.hid s2
    have HS3 := Lib.hid s3
    have HS4 := Lib.hid s4
    rw [hW]
    clear s1 s2 s3 s4 hW hmm hmi
    go_loopg [3, 5] (remV g (List.replicate g.length 0) + g.length) (fun k vl vs wr => ∃ (m : List Bool) (l : List Int) (c T : List Nat), remV g c + (g.length - l.length) ≤ k ∧ Hid (It g m l c T) ∧ Hid (Own wr w.heap.size 4 (bC m)) ∧ Hid (Own wr (w.heap.size + 1) 3 (nC c)) ∧ Hid (Hold.Apart wr (w.heap.size + 2) [⟨3, 1, vs, T.length, nC T.reverse⟩, ⟨3, 1, vl, l.length, iC l⟩]) ∧ Hid (Below w.heap.size w wr))
    case atStart => exact ⟨_, [], _, [0], by simp, Lib.hid (it_start H0.out), HS1, HS2, HS3, HS4⟩
    case round =>
    obtain ⟨m, l, c, T, hk, HI, HM, HC, HA, HB⟩ := hrel
    cases T with
    | nil =>
      obtain ⟨As, cs, hvs⟩ := HA.out.head.form
      obtain ⟨Al, cl, hvl⟩ := HA.out.tail.head.form
      simp only [List.length_nil] at hvs hvl
      have HVS := Lib.hid hvs
      subst hvs
      subst hvl
      go_wp2_with fail
      go_ret2
      have hf := HI.out.fin
      have e : startV g = (m, l) := by rw [← hf]; rfl
      rw [e]
      have hl := HI.out.lm
      exact ⟨_, _, rfl, by rw [← hl]; exact HM.out.row (Nat.le_refl _) (Nat.le_refl _) (by unfold maxLen; have := HN.out; omega) (by simp) (List.take_of_length_le (by simp)), (HA.out.tail.head.lower (by omega)), HB.out, HB.out.size⟩
    | cons p r =>
      have hA := HA.out
      rw [List.reverse_cons, show nC (r.reverse ++ [p]) = nC r.reverse ++ [i64 (p : Int)] by simp [nC]] at hA
      obtain ⟨gs, cs, hvs, hsc, n9, hA2⟩ := apart_pop (s := r.length) hA
      subst hvs
      have HA2 := Lib.hid hA2
      have hsum := HI.out.sum
      have hrl : r.length ≤ 1000 := by have := HN.out; simp only [List.length_cons] at hsum; omega
      have hpm := HI.out.stk p (by simp)
      have hpl : p < g.length := by have := (List.getElem?_eq_some_iff.1 hpm).1; have := HI.out.lm; omega
      have hll : l.length ≤ 1000 := by have := HN.out; omega
      obtain ⟨k, hck⟩ : ∃ k, c[p]? = some k := ⟨_, List.getElem?_eq_getElem (by rw [HI.out.lc]; exact hpl)⟩
      have c8 := (HC.out.cell p).trans (show (nC c)[p]? = some (i64 (k : Int)) by rw [List.getElem?_map, hck]; rfl)
      have c8t := HC.out.thaw p
      obtain ⟨gp, hgp⟩ : ∃ x, g[p]? = some x := ⟨_, List.getElem?_eq_getElem hpl⟩
      have HGP := Lib.hid hgp
      have hgd : g.getD p [] = gp := by rw [List.getD_eq_getElem?_getD, hgp]; rfl
      obtain ⟨b1, o1, rfl⟩ := addr_of9 HG.out (by omega)
      obtain ⟨c2, _, ⟨u2, rfl, kx⟩, n2⟩ := cell_of HG.out HGP.out (HB.out.mono hh)
      have m2 := n2 _ rfl
      obtain ⟨A3, k3, rfl⟩ := Row.form kx
      have hgpl : gp.length ≤ 4611686018427387903 := by obtain ⟨_, _, _, h, _⟩ := Row.get kx; exact h
      have KX := Lib.hid kx
      have HCK := Lib.hid hck
      have hkl := HI.out.cb p k hck
      rw [hgd] at hkl
      have HGD := Lib.hid hgd
      have HPM := Lib.hid hpm
      have HSUM := Lib.hid hsum
      clear n2 kx hA hA2 hck hgd hpm hsum hgp
      obtain ⟨ii, hi1, hi2, hi3, hi4⟩ := info_in9
      have HII : Hid (Tryz.prog.info? 3 = some ii ∧ ii.zero = some (.int .i64 0) ∧ ii.size = 1 ∧ ii.bytes = 8) := Lib.hid ⟨hi1, hi2, hi3, hi4⟩
      clear hi1 hi2 hi3 hi4
      have hws : w.heap.size + 2 ≤ wr.heap.size := HC.out.lt
      by_cases he : k = gp.length
      · subst he
        have e1 : ((gp.length : Int) == (gp.length : Int)) = true := by simp
        obtain ⟨Al, cl, hvl⟩ := HA2.out.tail.head.form
        simp only at hvl
        subst hvl
        have HA3 := Lib.hid (HA2.out.perm (List.Perm.swap _ _ _))
        have HIP := Lib.hid (HI.out.pop (by rw [HGD.out]; exact HCK.out))
        go_wp2_with fail
        go_region
        go_wp2_with (at_builtin; refine grow9 (R := [⟨3, 1, .slice (some ⟨gs, 0, none⟩) r.length cs, r.length, nC r.reverse⟩]) rfl _ _ 105 rfl (w.heap.size + 2) 3 _ 1 8 Tryz.underlying105 info_int9 rfl Nat.one_pos (.slice Al l.length cl) l.length _ rfl [i64 (p : Int)] _ rfl rfl (by intro u hu; rw [List.mem_singleton] at hu; subst hu; rfl) (by omega) (by omega) (HA3.out.below (made_below9 wr _)) (Own.made wr _ _).drew (Nat.le_trans hws (made_below9 wr _).size) ?_; intro v7 w7 hA7 hB7; have HA7 := Lib.hid hA7; have HB7 := Lib.hid ((made_below9 wr _).mono hws |>.trans hB7); clear hA7 hB7)
        go_roundg (remV g c + (g.length - (l.length + 1)))
        case measure => have := HSUM.out; simp only [List.length_cons] at this; omega
        case rel => exact ⟨m, l ++ [(p : Int)], c, r, by simp, HIP, Lib.hid (HM.out.below HB7.out (by omega)), Lib.hid (HC.out.below HB7.out (by omega)), Lib.hid (by have := HA7.out.perm (List.Perm.swap _ _ _); simpa [iC] using this), Lib.hid (HB.out.trans (HB7.out.mono (by omega)))⟩
      · have e1 : ((k : Int) == (gp.length : Int)) = false := by simp; omega
        have hkl2 : k < gp.length := by omega
        obtain ⟨x, hx⟩ : ∃ x, gp[k]? = some x := ⟨_, List.getElem?_eq_getElem hkl2⟩
        obtain ⟨b2, o2, rfl⟩ := addr_of9 KX.out (by omega)
        obtain ⟨c3, _, rfl, n3⟩ := cell_of KX.out hx (HB.out.mono hh)
        have m3 := n3 _ rfl
        have HX := Lib.hid hx
        clear n3 hx
        go_wp2_with fail
        go_region
        go_wp2_with fail
        go_region
        have HM1 := Lib.hid (HM.out.below ((Below.refl (w.heap.size + 1) wr).setCell (p := ⟨w.heap.size + 1, p, none⟩) (Nat.le_refl _) (.int .i64 ((k : Int) + 1))) (Nat.lt_succ_self _))
        have HC1 := Lib.hid (show Own (wr.setCell ⟨w.heap.size + 1, p, none⟩ (.int .i64 ((k : Int) + 1))) (w.heap.size + 1) 3 (nC (c.set p (k + 1))) by have := HC.out.store p (.int .i64 ((k : Int) + 1)); simpa [nC, List.map_set] using this)
        have HB1 := Lib.hid (HB.out.setCell (p := ⟨w.heap.size + 1, p, none⟩) (Nat.le_succ _) (.int .i64 ((k : Int) + 1)))
        have HA1 := Lib.hid (apart_set9 HA.out (a := ⟨w.heap.size + 1, p, none⟩) (Nat.lt_succ_self _) (.int .i64 ((k : Int) + 1)))
        have hrem := rem_set HCK.out HGP.out hkl2
        by_cases hp : 0 ≤ x ∧ x < (g.length : Int)
        · have e2 : decide (0 ≤ x ∧ x < (g.length : Int)) = true := decide_eq_true hp
          obtain ⟨q, rfl⟩ : ∃ q : Nat, x = (q : Int) := ⟨x.toNat, by omega⟩
          have hql : q < g.length := by omega
          obtain ⟨b, hb⟩ : ∃ b, m[q]? = some b := ⟨_, List.getElem?_eq_getElem (by rw [HI.out.lm]; exact hql)⟩
          have c9 := (HM1.out.cell q).trans (show (bC m)[q]? = some (.bool b) by rw [List.getElem?_map, hb]; rfl)
          have c9t := HM1.out.thaw q
          have HB' := Lib.hid hb
          clear hb hp
          cases b with
          | true =>
            have HI1 := Lib.hid (HI.out.skip HCK.out (by rw [HGD.out]; exact HX.out) (by intro h; have := h.2.2; rw [Int.toNat_natCast, HB'.out] at this; cases this))
            go_wp2_with fail
            refine (isPoint_any _ _ _ _ (by omega) _).mono ?_
            rintro e w1 ⟨rfl, rfl⟩
            rw [e2]
            go_wp2_with fail
            go_roundg (remV g (c.set p (k + 1)) + (g.length - l.length))
            case measure => omega
            case rel => exact ⟨m, l, c.set p (k + 1), p :: r, Nat.le_refl _, HI1, HM1, HC1, HA1, Lib.hid HB1.out.drew.drew⟩
          | false =>
            have HI1 := Lib.hid (HI.out.push HCK.out (by rw [HGD.out]; exact HX.out) HB'.out)
            have HM2 := Lib.hid (show Own ((wr.setCell ⟨w.heap.size + 1, p, none⟩ (.int .i64 ((k : Int) + 1))).setCell ⟨w.heap.size, q, none⟩ (.bool true)) w.heap.size 4 (bC (m.set q true)) by have := HM1.out.store q (.bool true); simpa [bC, List.map_set] using this)
            have HC2 := Lib.hid (show Own ((wr.setCell ⟨w.heap.size + 1, p, none⟩ (.int .i64 ((k : Int) + 1))).setCell ⟨w.heap.size, q, none⟩ (.bool true)) (w.heap.size + 1) 3 (nC (c.set p (k + 1))) from (Below.heap_setCell _ _ _ _ (show w.heap.size + 1 ≠ w.heap.size by omega)).trans HC1.out)
            have HB2 := Lib.hid (HB1.out.setCell (p := ⟨w.heap.size, q, none⟩) (Nat.le_refl _) (.bool true))
            have HA4 := Lib.hid (apart_set9 HA1.out (a := ⟨w.heap.size, q, none⟩) (show w.heap.size < w.heap.size + 2 by omega) (.bool true))
            have hws2 : w.heap.size + 2 ≤ ((wr.setCell ⟨w.heap.size + 1, p, none⟩ (.int .i64 ((k : Int) + 1))).setCell ⟨w.heap.size, q, none⟩ (.bool true)).heap.size := HC2.out.lt
            clear hrem
            go_wp2_with fail
            refine (isPoint_any _ _ _ _ (by omega) _).mono ?_
            rintro e w1 ⟨rfl, rfl⟩
            rw [e2]
            go_wp2_with (at_builtin; refine grow9 (R := [⟨3, 1, u3, l.length, iC l⟩]) rfl _ _ 105 rfl (w.heap.size + 2) 3 _ 1 8 Tryz.underlying105 info_int9 rfl Nat.one_pos (.slice (some ⟨gs, 0, none⟩) (r.length + 1) cs) (r.length + 1) _ rfl [i64 (q : Int)] _ rfl rfl (by intro u hu; rw [List.mem_singleton] at hu; subst hu; rfl) (by omega) (by omega) (HA4.out.below (below_two9 _ _)) (made_two9 _ _ (by simp) _ _) (Nat.le_trans hws2 (below_two9 _ _).size) ?_; intro v7 w7 hA7 hB7; have HA7 := Lib.hid hA7; have HB7 := Lib.hid ((below_two9 _ _).mono hws2 |>.trans hB7); clear hA7 hB7)
            go_roundg (remV g (c.set p (k + 1)) + (g.length - l.length))
            case measure => have := rem_set HCK.out HGP.out hkl2; omega
            case rel => exact ⟨m.set q true, l, c.set p (k + 1), q :: p :: r, Nat.le_refl _, HI1, Lib.hid (HM2.out.below HB7.out (by omega)), Lib.hid (HC2.out.below HB7.out (by omega)), Lib.hid (by have := HA7.out; simpa [nC] using this), Lib.hid (HB2.out.trans (HB7.out.mono (by omega)))⟩
        · have e2 : decide (0 ≤ x ∧ x < (g.length : Int)) = false := decide_eq_false hp
          have HI1 := Lib.hid (HI.out.skip HCK.out (by rw [HGD.out]; exact HX.out) (fun h => hp ⟨h.1, h.2.1⟩))
          clear hp
          go_wp2_with fail
          refine (isPoint_any _ _ _ _ (by omega) _).mono ?_
          rintro e w1 ⟨rfl, rfl⟩
          rw [e2]
          go_wp2_with fail
          go_roundg (remV g (c.set p (k + 1)) + (g.length - l.length))
          case measure => omega
          case rel => exact ⟨m, l, c.set p (k + 1), p :: r, Nat.le_refl _, HI1, HM1, HC1, HA1, Lib.hid HB1.out.drew.drew⟩
end Go.Proofs.YtdgmdpphimenjaaGreatDoor.Fl9

/-
  Layer 9: a row of numbers of the call's own turned round, and package flow's Order and Come.
-/
namespace Go.Proofs.YtdgmdpphimenjaaGreatDoor.Fl9
open Go.RowKit Api Mem

/-- k of the places on either side have changed. -/
def RevAt (xs : List Int) (k : Nat) (cs : List Int) : Prop := cs.length = xs.length ∧ ∀ q, q < xs.length → cs[q]? = if q < k ∨ xs.length ≤ q + k then xs[xs.length - 1 - q]? else xs[q]?
theorem RevAt.start (xs : List Int) : RevAt xs 0 xs := ⟨rfl, fun q hq => by rw [if_neg (by omega)]⟩
theorem RevAt.next {xs cs : List Int} {k : Nat} {x y : Int} (h : RevAt xs k cs) (hk : k + k + 1 < xs.length) (hx : cs[k]? = some x) (hy : cs[xs.length - 1 - k]? = some y) : RevAt xs (k + 1) ((cs.set k y).set (xs.length - 1 - k) x) := by
  refine ⟨by simp [h.1], fun q hq => ?_⟩
  rw [h.2 k (by omega), if_neg (by omega)] at hx
  rw [h.2 _ (by omega), if_neg (by omega)] at hy
  by_cases e1 : q = xs.length - 1 - k
  · subst e1
    rw [List.getElem?_set_self (by simp [h.1]; omega), if_pos (by omega), show xs.length - 1 - (xs.length - 1 - k) = k by omega, hx]
  · rw [List.getElem?_set_ne (fun e => e1 e.symm)]
    by_cases e2 : q = k
    · subst e2
      rw [List.getElem?_set_self (by rw [h.1]; omega), if_pos (by omega), hy]
    · rw [List.getElem?_set_ne (fun e => e2 e.symm), h.2 q hq]
      by_cases e3 : q < k ∨ xs.length ≤ q + k
      · rw [if_pos e3, if_pos (by omega)]
      · rw [if_neg e3, if_neg (by omega)]
theorem RevAt.done {xs cs : List Int} {k : Nat} (h : RevAt xs k cs) (hk : xs.length ≤ k + k + 1) : cs = xs.reverse := by
  apply List.ext_getElem?
  intro q
  by_cases hq : q < xs.length
  · rw [h.2 q hq, List.getElem?_reverse hq]
    by_cases e : q < k ∨ xs.length ≤ q + k
    · rw [if_pos e]
    · rw [if_neg e, show xs.length - 1 - q = q by omega]
  · rw [List.getElem?_eq_none (by rw [h.1]; omega), List.getElem?_eq_none (by simp; omega)]
set_option maxRecDepth 100000 in
set_option maxHeartbeats 8000000 in
theorem reverse_any (w : World) (base : Nat) (v : Value) (xs : List Int) (hn : xs.length ≤ 4611686018427387903) (ho : w.ownsRow base 3 1 v xs.length (iC xs)) :
    Calls Tryz.prog 53 #[v] w fun e w' => e = .returned (.tuple #[]) ∧ w'.ownsRow base 3 1 v xs.length (iC xs.reverse) ∧ Below base w w' ∧ w.heap.size ≤ w'.heap.size := by
  obtain ⟨A, c, rfl⟩ := any9 ho
  have HO := Lib.hid ho
  clear ho
  go_enter Tryz.func53, Tryz.ntmps53
  go_wp2_with fail
  go_loopw [2, 3] (fun i j wr => ∃ (k : Nat) (cs : List Int), k ≤ xs.length ∧ i = .int .i64 k ∧ j = .int .i64 ((xs.length : Int) - 1 - (k : Int)) ∧ Hid (RevAt xs k cs) ∧ Hid (wr.ownsRow base 3 1 (.slice A xs.length c) xs.length (iC cs)) ∧ Hid (Below base w wr) ∧ Hid (w.heap.size ≤ wr.heap.size)) (fun i _ _ => xs.length - (intOf i).toNat)
  case atStart => exact ⟨0, xs, Nat.zero_le _, rfl, by simp, Lib.hid (RevAt.start xs), HO, Lib.hid (Below.refl _ _), Lib.hid (Nat.le_refl _)⟩
  case round =>
  obtain ⟨k, cs, hk, rfl, rfl, HR, HOr, HB, HS⟩ := hrel
  by_cases hlt : k + k + 1 < xs.length
  · obtain ⟨g, cap, e9, hg1, hg2, hg3⟩ := form9 HOr.out (by omega)
    simp only [Value.slice.injEq, true_and] at e9
    obtain ⟨rfl, rfl⟩ := e9
    have hcl := HR.out.1
    obtain ⟨x, hx⟩ : ∃ x, cs[k]? = some x := ⟨_, List.getElem?_eq_getElem (by omega)⟩
    obtain ⟨y, hy⟩ : ∃ y, cs[xs.length - 1 - k]? = some y := ⟨_, List.getElem?_eq_getElem (by omega)⟩
    obtain ⟨m, hm⟩ : ∃ m, xs.length - 1 - k = m := ⟨_, rfl⟩
    have hmi : (xs.length : Int) - 1 - (k : Int) = (m : Int) := by omega
    rw [hm] at hy
    have c1 := (HOr.out.cellAt k (by omega)).trans (show (iC cs)[k]? = some (i64 x) by rw [List.getElem?_map, hx]; rfl)
    have c2 := (HOr.out.cellAt m (by omega)).trans (show (iC cs)[m]? = some (i64 y) by rw [List.getElem?_map, hy]; rfl)
    have t1 := HOr.out.frozenAt k
    have t2 := HOr.out.frozenAt m
    have e0 : decide ((k : Int) < (m : Int)) = true := decide_eq_true (by omega)
    have HN := Lib.hid (HR.out.next hlt hx (by rw [hm]; exact hy))
    have HO2 := Lib.hid (show ((wr.setCell ⟨g, k, none⟩ (i64 y)).setCell ⟨g, m, none⟩ (i64 x)).ownsRow base 3 1 (.slice (some ⟨g, 0, none⟩) xs.length c) xs.length (iC ((cs.set k y).set m x)) by
      have := ((HOr.out.stored k (i64 y)).1.stored m (i64 x)).1
      rw [← List.map_set, ← List.map_set] at this
      exact this)
    have HB2 := Lib.hid ((HB.out.setCell (p := ⟨g, k, none⟩) hg1 (i64 y)).setCell (p := ⟨g, m, none⟩) hg1 (i64 x))
    have hml : m < xs.length := by omega
    have hkm : k < m := by omega
    rw [hmi]
    go_wp2_with fail
    go_region
    go_wp2_with fail
    go_roundw
    case rel => exact ⟨k + 1, _, by omega, by go_num, by go_num, by rw [hm] at HN; exact HN, HO2, Lib.hid HB2.out.drew, Lib.hid (by simpa using HS.out)⟩
    case measure => simp [intOf]; omega
  · have e0 : decide ((k : Int) < (xs.length : Int) - 1 - (k : Int)) = false := decide_eq_false (by omega)
    have HE := Lib.hid (HR.out.done (by omega))
    go_wp2_with fail
    go_end0
    exact ⟨rfl, by rw [← HE.out]; exact HOr.out, HB.out, HS.out⟩
theorem start_nil : startV [] = ([], []) := rfl
theorem come_start (g : List (List Int)) : comeV g = (startV g).1 := by
  unfold comeV
  split
  · rename_i h
    obtain rfl := List.eq_nil_of_length_eq_zero h
    rfl
  · rfl
theorem order_start (g : List (List Int)) : orderV g = (startV g).2.reverse := by
  unfold orderV
  split
  · rename_i h
    obtain rfl := List.eq_nil_of_length_eq_zero h
    rfl
  · rfl
theorem start_len (g : List (List Int)) : (startV g).1.length = g.length ∧ (startV g).2.length ≤ g.length := by
  by_cases h : g.length = 0
  · obtain rfl := List.eq_nil_of_length_eq_zero h
    exact ⟨rfl, Nat.le_refl _⟩
  · have := down_good g g.length 0 (List.replicate g.length false) [] (by rw [List.getElem?_replicate, if_pos (by omega)]) (by rw [un_none]; exact Nat.le_refl _) (by simp)
    rw [un_none] at this
    exact ⟨this.1, by have := this.2.1; simp only [List.length_nil] at this; unfold startV; omega⟩
theorem come_len (g : List (List Int)) : (comeV g).length = g.length := by rw [come_start]; exact (start_len g).1
theorem order_len (g : List (List Int)) : (orderV g).length ≤ g.length := by rw [order_start, List.length_reverse]; exact (start_len g).2
/-- what Order and Come answer. -/
def OrderP (g : List (List Int)) (w : World) (e : Ending) (w' : World) : Prop := ∃ vo, e = .returned vo ∧ w'.ownsRow w.heap.size 3 1 vo (orderV g).length (iC (orderV g)) ∧ Below w.heap.size w w'
def ComeP (g : List (List Int)) (w : World) (e : Ending) (w' : World) : Prop := ∃ vm, e = .returned vm ∧ w'.ownsRow w.heap.size 4 1 vm g.length (bC (comeV g)) ∧ Below w.heap.size w w'
set_option maxRecDepth 100000 in
set_option maxHeartbeats 8000000 in
theorem order_any (lo hi : Nat) (w : World) (v : Value) (g : List (List Int)) (hg : Graph lo hi w v g) (hh : hi ≤ w.heap.size) (hn : g.length ≤ 1000) :
    Calls Tryz.prog 36 #[v] w (OrderP g w) := by
  have QD := Lib.hid (down_prog lo hi w v g hg hh hn)
  have hl := order_len g
  rw [order_start, List.length_reverse] at hl
  obtain ⟨A1, k1, rfl⟩ := Row.form hg
  obtain ⟨R, hR⟩ : ∃ R, startV g = R := ⟨_, rfl⟩
  have HR := Lib.hid hR
  rw [hR] at hl
  clear hR hg
  go_enter Tryz.func36, Tryz.ntmps36
  go_wp2_with fail
  refine QD.out.mono ?_
  rw [HR.out]
  rintro e w6 ⟨vm, vl, rfl, om, ol, hb6, hs6⟩
  have QR := Lib.hid (reverse_any w6 w.heap.size vl R.2 (by omega) ol)
  have HB := Lib.hid hb6
  clear om ol hb6 hs6
  go_wp2_with fail
  refine QR.out.mono ?_
  rintro e w7 ⟨rfl, ol, hb7, hs7⟩
  have HL := Lib.hid ol
  have HB7 := Lib.hid (HB.out.trans hb7)
  clear ol hb7 hs7
  go_wp2_with fail
  go_ret
  refine ⟨_, rfl, ?_, HB7.out⟩
  rw [order_start, HR.out, List.length_reverse]
  exact HL.out
end Go.Proofs.YtdgmdpphimenjaaGreatDoor.Fl9

/-
  Layer 9: what follows of going down: what is marked, what is left, and in which order.
-/
namespace Go.Proofs.YtdgmdpphimenjaaGreatDoor.Fl9

/-- going on from s to t: what is left anew. Each of it has one behind it that leads to it, or stands in ks. -/
structure Gone (g : List (List Int)) (ks : List Int) (s t : List Bool × List Int) (new : List Int) : Prop where
  left : t.2 = s.2 ++ new
  len : t.1.length = s.1.length
  mark : ∀ x : Nat, t.1[x]? = some true ↔ (s.1[x]? = some true ∨ (x : Int) ∈ new)
  was : ∀ x ∈ new, ∃ q : Nat, x = (q : Int) ∧ q < g.length ∧ s.1[q]? = some false
  nd : new.Nodup
  lead : ∀ x ∈ new, ∀ q : Nat, (q : Int) ∈ g.getD x.toNat [] → q < g.length → t.1[q]? = some true
  back : ∀ (i : Nat) (x : Int), new[i]? = some x → (∃ (j : Nat) (y : Int), i < j ∧ new[j]? = some y ∧ x ∈ g.getD y.toNat []) ∨ x ∈ ks
theorem Gone.refl (g : List (List Int)) (s : List Bool × List Int) : Gone g [] s s [] := ⟨by simp, rfl, by simp, by simp, List.nodup_nil, by simp, by simp⟩
theorem Gone.trans {g : List (List Int)} {k1 k2 : List Int} {s t u : List Bool × List Int} {n1 n2 : List Int} (h : Gone g k1 s t n1) (k : Gone g k2 t u n2) : Gone g (k1 ++ k2) s u (n1 ++ n2) := by
  refine ⟨by rw [k.left, h.left, List.append_assoc], k.len.trans h.len, fun x => ?_, fun x hx => ?_, ?_, fun x hx q hq hl => ?_, fun i x hx => ?_⟩
  · rw [k.mark, h.mark, List.mem_append, or_assoc]
  · rcases List.mem_append.1 hx with hx | hx
    · exact h.was x hx
    · obtain ⟨q, e, h1, h2⟩ := k.was x hx
      refine ⟨q, e, h1, ?_⟩
      have hl : q < t.1.length := (List.getElem?_eq_some_iff.1 h2).1
      cases hc : s.1[q]? with
      | none => rw [List.getElem?_eq_none_iff] at hc; have := h.len; omega
      | some b =>
        cases b with
        | false => rfl
        | true =>
          have := (h.mark q).2 (.inl hc)
          rw [h2] at this
          cases this
  · rw [List.nodup_append]
    refine ⟨h.nd, k.nd, fun a ha b hb e => ?_⟩
    subst e
    obtain ⟨q, e, _, h2⟩ := k.was a hb
    subst e
    have := (h.mark q).2 (.inr ha)
    rw [h2] at this
    cases this
  · rcases List.mem_append.1 hx with hx | hx
    · exact (k.mark q).2 (.inl (h.lead x hx q hq hl))
    · exact k.lead x hx q hq hl
  · by_cases hi : i < n1.length
    · rw [List.getElem?_append_left hi] at hx
      rcases h.back i x hx with ⟨j, y, h1, h2, h3⟩ | h3
      · exact .inl ⟨j, y, h1, by rw [List.getElem?_append_left (List.getElem?_eq_some_iff.1 h2).1]; exact h2, h3⟩
      · exact .inr (List.mem_append_left _ h3)
    · rw [List.getElem?_append_right (by omega)] at hx
      rcases k.back _ x hx with ⟨j, y, h1, h2, h3⟩ | h3
      · exact .inl ⟨n1.length + j, y, by omega, by rw [List.getElem?_append_right (by omega), Nat.add_sub_cancel_left]; exact h2, h3⟩
      · exact .inr (List.mem_append_right _ h3)
def Goes (g : List (List Int)) (f : Nat) (rec : Nat → List Bool → List Int → List Bool × List Int) : Prop := ∀ (p : Nat) (m : List Bool) (l : List Int), m[p]? = some false → un m ≤ f → m.length = g.length → ∃ new, Gone g [(p : Int)] (m, l) (rec p m l) new ∧ (p : Int) ∈ new
/-- one list gone through. -/
theorem gone_all {g : List (List Int)} {f : Nat} {rec : Nat → List Bool → List Int → List Bool × List Int} {m : List Bool} {l : List Int} (hr : Good g.length f rec) (hg : Goes g f rec) : ∀ (ks : List Int) {s : List Bool × List Int}, Dn g.length f m l s → ∃ new, Gone g ks s (ks.foldl (stepV g.length rec) s) new ∧ ∀ q : Nat, (q : Int) ∈ ks → q < g.length → (ks.foldl (stepV g.length rec) s).1[q]? = some true
  | [], s, _ => ⟨[], Gone.refl g s, fun q h => by cases h⟩
  | k :: r, s, h => by
    obtain ⟨n1, h1, h2⟩ : ∃ n1, Gone g [k] s (stepV g.length rec s k) n1 ∧ ∀ q : Nat, k = (q : Int) → q < g.length → (stepV g.length rec s k).1[q]? = some true := by
      unfold stepV
      split
      · rename_i hk
        obtain ⟨n1, h1, h2⟩ := hg k.toNat s.1 s.2 hk.2.2 h.fuel h.len
        have e : ((k.toNat : Nat) : Int) = k := Int.toNat_of_nonneg hk.1
        rw [e] at h1 h2
        exact ⟨n1, h1, fun q e2 _ => (h1.mark q).2 (.inr (by rw [← e2]; exact h2))⟩
      · rename_i hk
        refine ⟨[], ⟨by simp, rfl, by simp, by simp, List.nodup_nil, by simp, by simp⟩, fun q e2 hq => ?_⟩
        subst e2
        cases hc : s.1[q]? with
        | none => rw [List.getElem?_eq_none_iff] at hc; have := h.len; omega
        | some b =>
          cases b with
          | true => rfl
          | false => exact absurd ⟨by omega, by omega, by rw [Int.toNat_natCast]; exact hc⟩ hk
    obtain ⟨n2, h3, h4⟩ := gone_all hr hg r (h.step hr k)
    refine ⟨n1 ++ n2, h1.trans h3, fun q hq hl => ?_⟩
    rcases List.mem_cons.1 hq with e | hq
    · exact (h3.mark q).2 (.inl (h2 q e.symm hl))
    · exact h4 q hq hl
theorem down_goes (g : List (List Int)) : ∀ f, Goes g f (downV g f)
  | 0 => fun p m l hp hf hl => by
    have := un_set hp
    omega
  | f + 1 => fun p m l hp hf hl => by
    obtain ⟨new, h1, h2⟩ := gone_all (down_good g f) (down_goes g f) (g.getD p []) (Dn.start (l := l) hp hf hl)
    have hpl : p < m.length := (List.getElem?_eq_some_iff.1 hp).1
    have hpn : (p : Int) ∉ new := fun h => by
      obtain ⟨q, e, _, h3⟩ := h1.was _ h
      obtain rfl : p = q := by omega
      simp only at h3
      rw [List.getElem?_set_self hpl] at h3
      cases h3
    obtain ⟨T, hT⟩ : ∃ T, (g.getD p []).foldl (stepV g.length (downV g f)) (m.set p true, l) = T := ⟨_, rfl⟩
    rw [hT] at h1 h2
    have e : downV g (f + 1) p m l = (T.1, T.2 ++ [(p : Int)]) := by rw [downV, hT]
    rw [e]
    refine ⟨new ++ [(p : Int)], ⟨by simp [h1.left], by simpa using h1.len, fun x => ?_, fun x hx => ?_, ?_, fun x hx q hq hl2 => ?_, fun i x hx => ?_⟩, by simp⟩
    · show T.1[x]? = some true ↔ _
      rw [h1.mark x, List.mem_append, List.mem_singleton]
      simp only
      by_cases e2 : p = x
      · subst e2
        rw [List.getElem?_set_self hpl]
        simp
      · rw [List.getElem?_set_ne e2]
        constructor
        · rintro (h | h)
          · exact .inl h
          · exact .inr (.inl h)
        · rintro (h | h | h)
          · exact .inl h
          · exact .inr h
          · omega
    · rcases List.mem_append.1 hx with hx | hx
      · obtain ⟨q, e3, h3, h4⟩ := h1.was x hx
        refine ⟨q, e3, h3, ?_⟩
        have hne : p ≠ q := fun e => hpn (by rw [e, ← e3]; exact hx)
        simp only at h4
        rw [List.getElem?_set_ne hne] at h4
        exact h4
      · rw [List.mem_singleton] at hx
        exact ⟨p, hx, by omega, hp⟩
    · rw [List.nodup_append]
      refine ⟨h1.nd, by simp, fun a ha b hb e2 => ?_⟩
      rw [List.mem_singleton] at hb
      subst e2
      subst hb
      exact hpn ha
    · rcases List.mem_append.1 hx with hx | hx
      · exact h1.lead x hx q hq hl2
      · rw [List.mem_singleton] at hx
        subst hx
        rw [Int.toNat_natCast] at hq
        exact h2 q hq hl2
    · by_cases hi : i < new.length
      · rw [List.getElem?_append_left hi] at hx
        rcases h1.back i x hx with ⟨j, y, k1, k2, k3⟩ | k3
        · exact .inl ⟨j, y, k1, by rw [List.getElem?_append_left (List.getElem?_eq_some_iff.1 k2).1]; exact k2, k3⟩
        · exact .inl ⟨new.length, (p : Int), hi, by simp, by rw [Int.toNat_natCast]; exact k3⟩
      · rw [List.getElem?_append_right (by omega)] at hx
        right
        cases hj : i - new.length with
        | zero => rw [hj] at hx; simp at hx; simp [hx]
        | succ j => rw [hj] at hx; simp at hx
theorem nodup_at {α : Type} {l : List α} (h : l.Nodup) {i j : Nat} {x : α} (hi : l[i]? = some x) (hj : l[j]? = some x) : i = j := by
  obtain ⟨a1, a2⟩ := List.getElem?_eq_some_iff.1 hi
  obtain ⟨b1, b2⟩ := List.getElem?_eq_some_iff.1 hj
  have h2 := List.pairwise_iff_getElem.1 h
  rcases Nat.lt_trichotomy i j with e | e | e
  · exact absurd (a2.trans b2.symm) (h2 i j a1 b1 e)
  · exact e
  · exact absurd (b2.trans a2.symm) (h2 j i b1 a1 e)
/-- what is told of the order and of what is come to. -/
structure OrderOk (g : List (List Int)) (o : List Int) (m : List Bool) : Prop where
  len : m.length = g.length
  first : 0 < g.length → o[0]? = some 0
  mem : ∀ q : Nat, (q : Int) ∈ o ↔ m[q]? = some true
  point : ∀ x ∈ o, ∃ q : Nat, x = (q : Int) ∧ q < g.length
  nd : o.Nodup
  lead : ∀ p q : Nat, m[p]? = some true → (q : Int) ∈ g.getD p [] → q < g.length → m[q]? = some true
  back : ∀ (i : Nat) (x : Int), o[i]? = some x → (i = 0 ∧ x = 0) ∨ ∃ (j : Nat) (y : Int), j < i ∧ o[j]? = some y ∧ x ∈ g.getD y.toNat []
theorem start_ok {g : List (List Int)} (h0 : g.length ≠ 0) : OrderOk g (startV g).2.reverse (startV g).1 := by
  have hp : (List.replicate g.length false)[0]? = some false := by rw [List.getElem?_replicate, if_pos (by omega)]
  obtain ⟨new, h1, h2⟩ := down_goes g g.length 0 (List.replicate g.length false) [] hp (by rw [un_none]; exact Nat.le_refl _) (by simp)
  obtain ⟨S, hS⟩ : ∃ S, startV g = S := ⟨_, rfl⟩
  unfold startV at hS
  rw [hS] at h1
  have e : startV g = S := hS
  rw [e]
  have hl : S.2 = new := by have := h1.left; simpa using this
  have hnot : ∀ q : Nat, (List.replicate g.length false)[q]? ≠ some true := fun q h => by
    rw [List.getElem?_replicate] at h
    split at h <;> simp at h
  -- the last one is 0: it stands nowhere else
  have hlast : ∃ pre, new = pre ++ [(0 : Int)] := by
    obtain ⟨F, hF⟩ : ∃ F, g.length = F + 1 := ⟨g.length - 1, by omega⟩
    have e2 := hS
    rw [hF, downV] at e2
    refine ⟨((g.getD 0 []).foldl (stepV g.length (downV g F)) ((List.replicate (F + 1) false).set 0 true, [])).2, ?_⟩
    rw [← hl, ← e2]
    rfl
  obtain ⟨pre, hpre⟩ := hlast
  refine ⟨by have := h1.len; simpa using this, fun _ => ?_, fun q => ?_, fun x hx => ?_, ?_, fun p q hp hq hl2 => ?_, fun i x hx => ?_⟩
  · rw [hl, hpre]; simp
  · rw [List.mem_reverse, hl, h1.mark q]
    constructor
    · exact .inr
    · rintro (h | h)
      · exact absurd h (hnot q)
      · exact h
  · rw [List.mem_reverse, hl] at hx
    obtain ⟨q, e3, h3, _⟩ := h1.was x hx
    exact ⟨q, e3, h3⟩
  · rw [hl]
    exact (List.reverse_perm new).nodup_iff.2 h1.nd
  · rcases (h1.mark p).1 hp with h | h
    · exact absurd h (hnot p)
    · exact h1.lead _ h q (by rw [Int.toNat_natCast]; exact hq) hl2
  · rw [hl] at hx
    have hi : i < new.length := by have := (List.getElem?_eq_some_iff.1 hx).1; simpa using this
    rw [List.getElem?_reverse hi] at hx
    by_cases hi0 : i = 0
    · subst hi0
      left
      rw [hpre] at hx
      simp at hx
      exact ⟨rfl, hx.symm⟩
    · right
      have hx0 : x ≠ 0 := fun e3 => by
        subst e3
        have hz : new[new.length - 1]? = some 0 := by rw [hpre]; simp
        have := nodup_at h1.nd hx hz
        omega
      rcases h1.back _ x hx with ⟨j, y, k1, k2, k3⟩ | k3
      · have hj := (List.getElem?_eq_some_iff.1 k2).1
        refine ⟨new.length - 1 - j, y, by omega, ?_, k3⟩
        rw [hl, List.getElem?_reverse (by omega), show new.length - 1 - (new.length - 1 - j) = j by omega]
        exact k2
      · simp at k3
        exact absurd k3 hx0
end Go.Proofs.YtdgmdpphimenjaaGreatDoor.Fl9

/-
  Layer 9: for each point those that lead to it, plainly.
-/
namespace Go.Proofs.YtdgmdpphimenjaaGreatDoor.Fl9

/-- those below k that lead to i, rising. -/
def pv (g : List (List Int)) (k i : Nat) : List Int := ((List.range k).filter fun p => decide ((i : Int) ∈ g.getD p [])).map fun (p : Nat) => (p : Int)
def pj (g : List (List Int)) (k : Nat) (s : List Int) (i : Nat) : List Int := pv g k i ++ if (i : Int) ∈ s then [(k : Int)] else []
def lj (g : List (List Int)) (k : Nat) (s : List Int) : List (List Int) := (List.range g.length).map (pj g k s)
def predsV (g : List (List Int)) : List (List Int) := (List.range g.length).map (pv g g.length)
theorem pv_succ (g : List (List Int)) (k i : Nat) : pv g (k + 1) i = pj g k (g.getD k []) i := by
  unfold pj pv
  rw [List.range_succ, List.filter_append, List.map_append]
  congr 1
  by_cases h : (i : Int) ∈ g.getD k []
  · rw [if_pos h, List.filter_cons_of_pos (by simpa using h)]; rfl
  · rw [if_neg h, List.filter_cons_of_neg (by simpa using h)]; rfl
theorem pj_nil (g : List (List Int)) (k i : Nat) : pj g k [] i = pv g k i := by simp [pj]
theorem pv_lt {g : List (List Int)} {k i : Nat} {x : Int} (h : x ∈ pv g k i) : ∃ p : Nat, x = (p : Int) ∧ p < k ∧ (i : Int) ∈ g.getD p [] := by
  unfold pv at h
  obtain ⟨p, hp, rfl⟩ := List.mem_map.1 h
  obtain ⟨h1, h2⟩ := List.mem_filter.1 hp
  exact ⟨p, rfl, List.mem_range.1 h1, by simpa using h2⟩
theorem pv_mem {g : List (List Int)} {k i p : Nat} (h1 : p < k) (h2 : (i : Int) ∈ g.getD p []) : (p : Int) ∈ pv g k i := List.mem_map.2 ⟨p, List.mem_filter.2 ⟨List.mem_range.2 h1, by simpa using h2⟩, rfl⟩
theorem pv_len (g : List (List Int)) (k i : Nat) : (pv g k i).length ≤ k := by
  unfold pv
  rw [List.length_map]
  have := List.length_filter_le (fun p => decide ((i : Int) ∈ g.getD p [])) (List.range k)
  rwa [List.length_range] at this
theorem pj_len (g : List (List Int)) (k : Nat) (s : List Int) (i : Nat) : (pj g k s i).length ≤ k + 1 := by
  unfold pj
  have := pv_len g k i
  rw [List.length_append]
  split <;> simp <;> omega
theorem lj_len (g : List (List Int)) (k : Nat) (s : List Int) : (lj g k s).length = g.length := by simp [lj]
theorem lj_at {g : List (List Int)} {k : Nat} {s : List Int} {i : Nat} (h : i < g.length) : (lj g k s)[i]? = some (pj g k s i) := by
  unfold lj
  rw [List.getElem?_map, List.getElem?_range h]; rfl
theorem lj_zero (g : List (List Int)) : lj g 0 [] = List.replicate g.length [] := by
  apply List.ext_getElem?
  intro i
  by_cases h : i < g.length
  · rw [lj_at h, List.getElem?_replicate, if_pos h]; rfl
  · rw [List.getElem?_eq_none (by rw [lj_len]; omega), List.getElem?_eq_none (by simp; omega)]
theorem lj_next (g : List (List Int)) (k : Nat) : lj g k (g.getD k []) = lj g (k + 1) [] := by
  unfold lj
  apply List.map_congr_left
  intro i _
  rw [pj_nil, pv_succ]
theorem lj_end (g : List (List Int)) : lj g g.length [] = predsV g := by
  unfold lj predsV
  apply List.map_congr_left
  intro i _
  rw [pj_nil]
/-- whether a list's last one is x. -/
def ends (l : List Int) (x : Int) : Bool := decide (l.getLast? = some x)
theorem pj_ends (g : List (List Int)) (k : Nat) (s : List Int) (i : Nat) : ends (pj g k s i) (k : Int) = decide ((i : Int) ∈ s) := by
  unfold ends pj
  by_cases h : (i : Int) ∈ s
  · rw [if_pos h, List.getLast?_append, decide_eq_true h]; simp
  · rw [if_neg h, List.append_nil, decide_eq_false h]
    apply decide_eq_false
    intro hl
    obtain ⟨p, e, h1, _⟩ := pv_lt (List.mem_of_getLast? hl)
    omega
theorem lj_skip {g : List (List Int)} {k : Nat} {s : List Int} {x : Int} (h : ¬ (0 ≤ x ∧ x < (g.length : Int)) ∨ x ∈ s) : lj g k (s ++ [x]) = lj g k s := by
  unfold lj
  apply List.map_congr_left
  intro i hi
  rw [List.mem_range] at hi
  unfold pj
  congr 1
  have : (i : Int) ∈ s ++ [x] ↔ (i : Int) ∈ s := by
    rw [List.mem_append, List.mem_singleton]
    constructor
    · rintro (h1 | h1)
      · exact h1
      · subst h1
        rcases h with h | h
        · exact absurd ⟨by omega, by omega⟩ h
        · exact h
    · exact .inl
  simp only [this]
theorem lj_put {g : List (List Int)} {k : Nat} {s : List Int} {q : Nat} (_ : q < g.length) (h : (q : Int) ∉ s) : lj g k (s ++ [(q : Int)]) = (lj g k s).set q (pj g k s q ++ [(k : Int)]) := by
  apply List.ext_getElem?
  intro i
  by_cases hi : i < g.length
  · rw [lj_at hi]
    by_cases e : q = i
    · subst e
      rw [List.getElem?_set_self (by rw [lj_len]; exact hi)]
      unfold pj
      rw [if_neg h, if_pos (by simp), List.append_nil]
    · rw [List.getElem?_set_ne e, lj_at hi]
      unfold pj
      have : (i : Int) ∈ s ++ [(q : Int)] ↔ (i : Int) ∈ s := by
        rw [List.mem_append, List.mem_singleton]
        exact ⟨fun h => h.resolve_right (by omega), .inl⟩
      simp only [this]
  · rw [List.getElem?_eq_none (by rw [lj_len]; omega), List.getElem?_eq_none (by rw [List.length_set, lj_len]; omega)]
theorem preds_len (g : List (List Int)) : (predsV g).length = g.length := by simp [predsV]
theorem preds_at {g : List (List Int)} {i : Nat} (h : i < g.length) : (predsV g)[i]? = some (pv g g.length i) := by
  unfold predsV
  rw [List.getElem?_map, List.getElem?_range h]; rfl
theorem preds_short (g : List (List Int)) : ∀ l ∈ predsV g, l.length ≤ g.length := by
  intro l hl
  obtain ⟨i, _, rfl⟩ := List.mem_map.1 hl
  exact pv_len g _ i
end Go.Proofs.YtdgmdpphimenjaaGreatDoor.Fl9

/-
  Layer 9: rows of rows of numbers that a call owns.
-/
namespace Go.Proofs.YtdgmdpphimenjaaGreatDoor.Fl9
open Go.RowKit Api Mem

abbrev innR (v : Value) (l : List Int) : Hold.Rec := ⟨3, 1, v, l.length, iC l⟩
def inn (vs : List Value) (L : List (List Int)) : List Hold.Rec := List.zipWith innR vs L
abbrev outR (v : Value) (vs : List Value) : Hold.Rec := ⟨105, 1, v, vs.length, vs⟩
/-- a row of rows of the call's own, and other rows beside it. -/
def GOwn (w : World) (base : Nat) (v : Value) (L : List (List Int)) : Prop := ∃ vs, vs.length = L.length ∧ Hold.Apart w base (outR v vs :: inn vs L)
theorem snoc9 {w : World} {base : Nat} {v : Value} {l : List Int} {x : Int} {R : List Hold.Rec} (h : Hold.Apart w base (⟨3, 1, v, l.length + 1, iC l ++ [i64 x]⟩ :: R)) : Hold.Apart w base (innR v (l ++ [x]) :: R) := by
  have e : innR v (l ++ [x]) = ⟨3, 1, v, l.length + 1, iC l ++ [i64 x]⟩ := by simp [innR, iC]
  rw [e]
  exact h
theorem thaw9 {w : World} {base n m cap g size : Nat} {e : TypeId} {xs : List Value} (h : w.ownsRow base e size (.slice (some ⟨g, 0, none⟩) m cap) n xs) (i : Nat) : w.frozen? ⟨g, i, none⟩ = false ∧ g < w.heap.size ∧ (i < n * size → w.cell? ⟨g, i, none⟩ = xs[i]?) := by
  rcases h.2 with ⟨e, _⟩ | ⟨g', cap', cur, e, hb, hg, hnc, r⟩
  · cases e
  · have e2 := e
    simp only [Value.slice.injEq, Option.some.injEq, Addr.mk.injEq, and_true] at e2
    obtain ⟨rfl, rfl, rfl⟩ := e2
    exact ⟨h.frozenAt i, (Array.getElem?_eq_some_iff.1 hg).1, fun hi => h.cellAt i hi⟩
theorem inn_at : ∀ {vs : List Value} {L : List (List Int)} {i : Nat} {v : Value} {l : List Int}, vs[i]? = some v → L[i]? = some l → ∃ rest, ∀ v' l', (inn (vs.set i v') (L.set i l')).Perm (innR v' l' :: rest)
  | [], _, _, _, _, h, _ => by simp at h
  | _ :: _, [], _, _, _, _, h => by simp at h
  | a :: vs, b :: L, 0, v, l, h1, h2 => ⟨inn vs L, fun v' l' => List.Perm.refl _⟩
  | a :: vs, b :: L, i + 1, v, l, h1, h2 => by
    obtain ⟨rest, hr⟩ := inn_at (vs := vs) (L := L) (i := i) (by simpa using h1) (by simpa using h2)
    exact ⟨innR a b :: rest, fun v' l' => ((hr v' l').cons (innR a b)).trans (List.Perm.swap _ _ _)⟩
theorem set_same {α : Type} : ∀ {l : List α} {i : Nat} {x : α}, l[i]? = some x → l.set i x = l
  | [], _, _, h => by simp at h
  | a :: l, 0, x, h => by simp at h; simp [h]
  | a :: l, i + 1, x, h => by
    rw [List.set_cons_succ, set_same (by simpa using h)]
theorem inn_len {vs : List Value} {L : List (List Int)} (h : vs.length = L.length) : (inn vs L).length = L.length := by simp [inn, h]
theorem inn_get {vs : List Value} {L : List (List Int)} {i : Nat} {v : Value} {l : List Int} (h1 : vs[i]? = some v) (h2 : L[i]? = some l) : innR v l ∈ inn vs L := by
  refine List.mem_of_getElem? (i := i) ?_
  unfold inn
  rw [List.getElem?_zipWith, h1, h2]
theorem flat_one {α : Type} (f : α → Value) : ∀ l : List α, (l.map fun x => [f x]).flatten = l.map f
  | [] => rfl
  | a :: l => by rw [List.map_cons, List.flatten_cons, flat_one f l]; rfl
theorem ints_own {w : World} {base hi : Nat} {v : Value} {l : List Int} (h : w.ownsRow base 3 1 v l.length (iC l)) (hh : w.heap.size ≤ hi) (hl : l.length ≤ 4611686018427387903) : Ints base hi w v l :=
  Hold.Rec.on.row (r := innR v l) (ys := l.map fun x => [i64 x]) h hh hl rfl (by simp) (flat_one i64 l).symm (by
    intro i c x hc hx
    rw [List.getElem?_map, hx] at hc
    cases hc
    exact ⟨rfl, rfl⟩)
theorem bools_own {w : World} {base hi : Nat} {v : Value} {l : List Bool} (h : w.ownsRow base 4 1 v l.length (bC l)) (hh : w.heap.size ≤ hi) (hl : l.length ≤ 4611686018427387903) : Bools base hi w v l :=
  Hold.Rec.on.row (r := ⟨4, 1, v, l.length, bC l⟩) (ys := l.map fun x => [.bool x]) h hh hl rfl (by simp) (flat_one Value.bool l).symm (by
    intro i c x hc hx
    rw [List.getElem?_map, hx] at hc
    cases hc
    exact ⟨rfl, rfl⟩)
theorem GOwn.graph {w : World} {base hi : Nat} {v : Value} {L : List (List Int)} (h : GOwn w base v L) (hh : w.heap.size ≤ hi) (hl : L.length ≤ 4611686018427387903) (hs : ∀ l ∈ L, l.length ≤ 4611686018427387903) : Graph base hi w v L := by
  obtain ⟨vs, hv, ha⟩ := h
  exact Hold.Rec.on.row (r := outR v vs) (ys := vs.map fun x => [x]) ha.head hh (by rw [← hv] at hl; exact hl) hv (by simp [hv]) (by rw [flat_one (fun x => x)]; simp) (by
    intro i c x hc hx
    have hi := (List.getElem?_eq_some_iff.1 hx).1
    rw [List.getElem?_map] at hc
    obtain ⟨u, hu, rfl⟩ := Option.map_eq_some_iff.1 hc
    exact ⟨rfl, u, rfl, ints_own (ha.1 (innR u x) (by simp [inn_get hu hx])) hh (hs x (List.mem_of_getElem? hx))⟩)
theorem GOwn.below {w w' : World} {base : Nat} {v : Value} {L : List (List Int)} (h : GOwn w base v L) (hb : Below w.heap.size w w') : GOwn w' base v L := by
  obtain ⟨vs, hv, ha⟩ := h
  exact ⟨vs, hv, ha.below hb⟩
theorem GOwn.lower {w : World} {base b : Nat} {v : Value} {L : List (List Int)} (h : GOwn w base v L) (hb : b ≤ base) : GOwn w b v L := by
  obtain ⟨vs, hv, ha⟩ := h
  exact ⟨vs, hv, ha.lower hb⟩
theorem GOwn.form {w : World} {base : Nat} {v : Value} {L : List (List Int)} (h : GOwn w base v L) : ∃ A cap, v = .slice A L.length cap := by
  obtain ⟨vs, hv, ha⟩ := h
  obtain ⟨A, cap, e⟩ := ha.head.form
  exact ⟨A, cap, by rw [← hv]; exact e⟩
/-- one of the rows, brought to the front: its cell, and what comes of putting another one there. -/
theorem GOwn.pick {w : World} {base : Nat} {v : Value} {L : List (List Int)} (h : GOwn w base v L) {i : Nat} {l : List Int} (hl : L[i]? = some l) : ∃ g cap u rest vs, v = .slice (some ⟨g, 0, none⟩) L.length cap ∧ base ≤ g ∧ g < w.heap.size ∧ w.cell? ⟨g, i, none⟩ = some u ∧ w.frozen? ⟨g, i, none⟩ = false ∧ vs.length = L.length ∧ vs[i]? = some u ∧ Hold.Apart w base (innR u l :: outR v vs :: rest) ∧
    ∀ (w' : World) (u' : Value) (l' : List Int), Hold.Apart w' base (innR u' l' :: outR v vs :: rest) → GOwn (w'.setCell ⟨g, i, none⟩ u') base v (L.set i l') := by
  obtain ⟨vs, hv, ha⟩ := h
  have hi := (List.getElem?_eq_some_iff.1 hl).1
  obtain ⟨u, hu⟩ : ∃ u, vs[i]? = some u := ⟨_, List.getElem?_eq_getElem (by omega)⟩
  obtain ⟨rest, hr⟩ := inn_at hu hl
  have h0 := hr u l
  rw [set_same hu, set_same hl] at h0
  obtain ⟨g, cap, e, hg1, hg2, hg3⟩ := form9 (w := w) (v := v) ha.head (by show 0 < vs.length; omega)
  have hpl : w.ownsRow base 105 1 v vs.length vs := ha.head
  obtain rfl : v = .slice (some ⟨g, 0, none⟩) vs.length cap := e
  refine ⟨g, cap, u, rest, vs, by rw [hv], hg1, hg2, (hpl.cellAt i (by simp; omega)).trans hu, hpl.frozenAt i, hv, hu, ha.perm ((h0.cons _).trans (List.Perm.swap _ _ _)), fun w' u' l' ha' => ?_⟩
  refine ⟨vs.set i u', by simp [hv], ?_⟩
  have ha2 := (ha'.perm (List.Perm.swap _ _ _)).store (g := g) (cap := cap) (q := i) (u := u') rfl
  have := ha2.perm (((hr u' l').symm).cons _)
  unfold outR
  rw [List.length_set]
  exact this
theorem none_inn {n i : Nat} {r : Hold.Rec} (hi : (inn (List.replicate n (.slice none 0 0)) (List.replicate n []))[i]? = some r) : r = innR (.slice none 0 0) [] := by
  unfold inn at hi
  rw [List.getElem?_zipWith, List.getElem?_replicate, List.getElem?_replicate] at hi
  by_cases h : i < n
  · simp [h] at hi
    exact hi.symm
  · simp [h] at hi
/-- n rows of nothing, just made. -/
theorem gown_made {w : World} (n b : Nat) (hb : b = w.heap.size) (hn : n ≤ 1000) : GOwn (w.alloc (.cells (List.replicate n (.slice none 0 0)).toArray 105)) b (.slice (some ⟨b, 0, none⟩) n n) (List.replicate n []) := by
  have hrow := row_made9 (e := 105) (z := .slice none 0 0) n b rfl hb hn
  refine ⟨List.replicate n (.slice none 0 0), by simp, fun r hr => ?_, ?_⟩
  · rcases List.mem_cons.1 hr with rfl | hr
    · have := hrow
      unfold Hold.Rec.on
      simpa using this
    · obtain ⟨i, hi⟩ := List.mem_iff_getElem?.1 hr
      have := none_inn hi
      subst this
      exact World.ownsRow_nil _ _ _ _
  · have e : ((inn (List.replicate n (.slice none 0 0)) (List.replicate n [])).filterMap fun r => r.v.ownBlock) = [] := by
      rw [List.filterMap_eq_nil_iff]
      intro r hr
      obtain ⟨i, hi⟩ := List.mem_iff_getElem?.1 hr
      have := none_inn hi
      subst this
      rfl
    rw [List.filterMap_cons, e]
    simp [Value.ownBlock]
end Go.Proofs.YtdgmdpphimenjaaGreatDoor.Fl9

/-
  Layer 9: what leads to what: package flow's Preds, and the document's.
-/
namespace Go.Proofs.YtdgmdpphimenjaaGreatDoor.Fl9
open Go.RowKit Api Mem

theorem info_row9 : (Tryz.prog.info? 105).map (fun i => (i.zero, i.size, i.bytes)) = some (some (.slice none 0 0), 1, 24) := by kernel_rfl
/-- what Preds answers. -/
def GP (L : List (List Int)) (w : World) (e : Ending) (w' : World) : Prop := ∃ v, e = .returned v ∧ GOwn w' w.heap.size v L ∧ Below w.heap.size w w'
theorem pv_step (g : List (List Int)) (k i : Nat) : pv g (k + 1) i = pv g k i ++ if (i : Int) ∈ g.getD k [] then [(k : Int)] else [] := pv_succ g k i
theorem preds_take {g : List (List Int)} {k : Nat} (h : k < g.length) : (predsV g).take (k + 1) = (predsV g).take k ++ [pv g g.length k] := by
  have h2 := preds_at h
  obtain ⟨h3, h4⟩ := List.getElem?_eq_some_iff.1 h2
  rw [List.take_succ_eq_append_getElem h3, h4]
theorem take_len9 {g : List (List Int)} {k : Nat} (h : k ≤ g.length) : ((predsV g).take k).length = k := by
  rw [List.length_take, preds_len]; omega
theorem GOwn.snoc {w : World} {base : Nat} {v vl : Value} {vs : List Value} {L : List (List Int)} {l : List Int} (hv : vs.length = L.length) (h : Hold.Apart w base (⟨105, 1, v, vs.length + 1, vs ++ [vl]⟩ :: innR vl l :: inn vs L)) : GOwn w base v (L ++ [l]) := by
  refine ⟨vs ++ [vl], by simp [hv], ?_⟩
  have e : inn (vs ++ [vl]) (L ++ [l]) = inn vs L ++ [innR vl l] := by
    unfold inn
    rw [List.zipWith_append hv]
    rfl
  have e2 : outR v (vs ++ [vl]) = ⟨105, 1, v, vs.length + 1, vs ++ [vl]⟩ := by simp [outR]
  rw [e, e2]
  refine h.perm (List.Perm.cons _ ?_)
  exact (List.perm_append_comm (l₁ := [innR vl l]) (l₂ := inn vs L))
end Go.Proofs.YtdgmdpphimenjaaGreatDoor.Fl9

/-
  Layer 9: package flow's map of places.
-/
namespace Go.Proofs.YtdgmdpphimenjaaGreatDoor.Sh8
open Go.RowKit Api Mem Go.Maps

set_option maxRecDepth 100000 in
set_option maxHeartbeats 8000000 in
theorem fplaces_any (lo hi : Nat) (w : World) (cs : List Value) (f : Api.Func) (hf : FuncC lo hi w cs f) (hh : hi ≤ w.heap.size) (hG : nmG f.blocks) :
    Calls Tryz.prog 51 #[.agg cs.toArray] w fun e w' => ∃ g, e = .returned (.map (some g)) ∧ w.heap.size ≤ g ∧ w'.ownsMap Tryz.prog 9 (plainElem Tryz.prog 3) g f.blocks.length (tab 0 (names f.blocks)) ∧ Below w.heap.size w w' := by
  obtain ⟨u1, u2, u3, rfl, kp, kv, kb⟩ := hf
  obtain ⟨nm, rs, ps, vs, bl⟩ := f
  simp only at kp kv kb hG ⊢
  obtain ⟨A1, k1, rfl⟩ := kp.form
  obtain ⟨A2, k2, rfl⟩ := kv.form
  obtain ⟨A3, k3, rfl⟩ := kb.form
  obtain ⟨W, hW⟩ : ∃ W, w.alloc (.cells #[str nm, str rs, .slice A1 ps.length k1, .slice A2 vs.length k2, .slice A3 bl.length k3] 25) = W := ⟨_, rfl⟩
  obtain ⟨o1, b1, z1⟩ := box8 (c := [str nm, str rs, .slice A1 ps.length k1, .slice A2 vs.length k2, .slice A3 bl.length k3]) hW
  have hlb : bl.length ≤ 4611686018427387903 := by obtain ⟨_, _, _, h, _⟩ := kb.get; exact h
  have KB := Lib.hid (Blocks.move (Still.of_below (b1.mono hh)) kb)
  have HO := Lib.hid o1
  have HB := Lib.hid b1
  have HW := Lib.hid hW
  have HHW : Hid (hi ≤ W.heap.size) := Lib.hid (by omega)
  have GB := Lib.hid hG
  have zlt := o1.lt
  clear o1 b1 hW kp kv kb hG
  have hmm := fun (n : Int) (w : World) => run_makeHint (P := Tryz.prog) (t := 127) Tryz.underlying127 .i64 n w
  have hm0 := World.ownsMap_made (H := Unit) W Tryz.prog 9 (plainElem Tryz.prog 3)
  have hb0 : Below W.heap.size W (W.alloc (.map #[] 0)) := (Below.refl _ _).alloc (Nat.le_refl _) _
  have HM0 := Lib.hid hm0
  have HB0 := Lib.hid hb0
  clear hm0 hb0
  go_enter Tryz.func51, Tryz.ntmps51
  go_wp2_with fail
  rw [HW.out]
  have f4' := HO.out.cell 4
  simp only [List.getElem?_cons_succ, List.getElem?_cons_zero] at f4'
  go_wp2_with fail
  go_loopw [4] (fun i wr => ∃ k : Nat, k ≤ bl.length ∧ i = .int .i64 ((k : Int) - 1) ∧ Hid (wr.ownsMap Tryz.prog 9 (plainElem Tryz.prog 3) (w.heap.size + 1) (bl.length - k) (tab k ((names bl).drop k))) ∧ Hid (Below W.heap.size W wr)) (fun i _ => (intOf i + 1).toNat)
  case atStart => exact ⟨bl.length, Nat.le_refl _, rfl, Lib.hid (by rw [Nat.sub_self, List.drop_of_length_le (by rw [names_len]; exact Nat.le_refl _), ← z1]; exact HM0.out), HB0⟩
  case round =>
  obtain ⟨k, hk, rfl, HM, HBr⟩ := hrel
  clear f4'
  have f4 := (HO.out.below HBr.out HO.out.lt).cell 4
  simp only [List.getElem?_cons_succ, List.getElem?_cons_zero] at f4
  by_cases hlt : 0 < k
  · obtain ⟨k, rfl⟩ : ∃ j, k = j + 1 := ⟨k - 1, by omega⟩
    obtain ⟨⟨bn, phs, cod, ⟨tk, ⟨ak, as_, an⟩, td, tn⟩⟩, hx⟩ : ∃ y, bl[k]? = some y := ⟨_, List.getElem?_eq_getElem (by omega)⟩
    obtain ⟨b3, of3, hn3, hm3, a3, j3⟩ := KB.out.get
    obtain ⟨rfl, _, hb3⟩ := a3 (by omega)
    obtain ⟨cs3, _, q3, hu⟩ := j3 k _ hx
    have hu2 := BlockC.move (Still.of_below (HBr.out.mono HHW.out)) hu
    obtain ⟨x1, x2, x3, e1', kph, kco, x4, e2', kto⟩ := hu2
    subst e2'
    subst e1'
    obtain ⟨m0, m1, m2, m3, m4, m5, m6, m7, m8⟩ := at9 (cells_later q3 HBr.out (by have := HHW.out; omega))
    have HX := Lib.hid (names_at hx)
    have HKEY := Lib.hid (key_at (GB.out _ (List.mem_of_getElem? hx)))
    clear q3 j3 a3 hx kph kco kto
    have e0 : ((k + 1 : Nat) : Int) - 1 = (k : Int) := by omega
    rw [e0]
    go_wp2_with (first | (at_mapUpdate; refine wpList_mapUpdate_own _ rfl _ _ _ 127 rfl 9 3 lawS Tryz.underlying127 _ (w.heap.size + 1) (bl.length - (k + 1)) _ rfl HM.out (by unfold maxLen; omega) _ _ _ rfl rfl HKEY.out _ [] (plainElem_int Tryz.underlying3 (WalkArith.wf_i64 (by omega))) ?_; intro w1 hown1 hgrow1; have HW1 := Lib.hid hown1; have HG1 := Lib.hid hgrow1; clear hown1 hgrow1) | go_in)
    go_roundw
    case rel => exact ⟨k, by omega, by go_num, Lib.hid (by rw [drop_at HX.out]; exact (HW1.out).mono (by omega)), Lib.hid (HBr.out.grown HG1.out HBr.out.size (fun j hj => by cases hj; omega))⟩
    case measure => simp [intOf]
  · obtain rfl : k = 0 := by omega
    go_wp2
    go_ret
    exact ⟨w.heap.size + 1, rfl, by omega, HM.out, HB.out.trans (HBr.out.mono HB.out.size)⟩
end Go.Proofs.YtdgmdpphimenjaaGreatDoor.Sh8

/-
  Layer 9: package flow's Of, and the document's.
-/
namespace Go.Proofs.YtdgmdpphimenjaaGreatDoor.Fl9
open Go.RowKit Api Mem Go.Maps Sh8

/-- the places of the names in one end. -/
def toL (ns : List Wd) (l : List Wd) : List Int := l.map fun x => ((plN (plc ns x) : Nat) : Int)
def ofV (bl : List Bl) : List (List Int) := bl.map fun b => toL (names bl) b.fin.dest
/-- the first k of them, and nothing of the others. -/
def ofK (bl : List Bl) (k : Nat) : List (List Int) := (ofV bl).take k ++ List.replicate (bl.length - k) []
theorem ofV_len (bl : List Bl) : (ofV bl).length = bl.length := by simp [ofV]
theorem ofK_len {bl : List Bl} {k : Nat} (h : k ≤ bl.length) : (ofK bl k).length = bl.length := by simp [ofK, ofV_len]; omega
theorem ofK_zero (bl : List Bl) : ofK bl 0 = List.replicate bl.length [] := by simp [ofK]
theorem ofK_end (bl : List Bl) : ofK bl bl.length = ofV bl := by simp [ofK, List.take_of_length_le (Nat.le_of_eq (ofV_len bl))]
theorem ofV_at {bl : List Bl} {k : Nat} {b : Bl} (h : bl[k]? = some b) : (ofV bl)[k]? = some (toL (names bl) b.fin.dest) := by simp [ofV, h]
theorem ofK_at {bl : List Bl} {k : Nat} (h : k < bl.length) : (ofK bl k)[k]? = some [] := by
  unfold ofK
  have hl : ((ofV bl).take k).length = k := by rw [List.length_take, ofV_len]; omega
  rw [List.getElem?_append_right (by omega), hl, Nat.sub_self, List.getElem?_replicate, if_pos (by omega)]
theorem ofK_next {bl : List Bl} {k : Nat} {b : Bl} (h : bl[k]? = some b) : (ofK bl k).set k (toL (names bl) b.fin.dest) = ofK bl (k + 1) := by
  obtain ⟨hk, e⟩ := List.getElem?_eq_some_iff.1 h
  obtain ⟨hk2, e2⟩ := List.getElem?_eq_some_iff.1 (ofV_at h)
  have hl : ((ofV bl).take k).length = k := by rw [List.length_take, ofV_len]; omega
  unfold ofK
  rw [List.set_append_right _ _ (by omega), hl, Nat.sub_self, show bl.length - k = (bl.length - (k + 1)) + 1 by omega, List.replicate_succ, List.set_cons_zero, List.take_succ_eq_append_getElem hk2, e2, List.append_assoc]
  rfl
theorem toL_next {ns l : List Wd} {j : Nat} {x : Wd} (h : l[j]? = some x) : toL ns (l.take (j + 1)) = toL ns (l.take j) ++ [((plN (plc ns x) : Nat) : Int)] := by
  obtain ⟨h1, h2⟩ := List.getElem?_eq_some_iff.1 h
  unfold toL
  rw [List.take_succ_eq_append_getElem h1, h2, List.map_append]
  rfl
theorem plc_some : ∀ {ns : List Wd} {x : Wd}, x ∈ ns → ∃ k, plc ns x = some k
  | [], _, h => by cases h
  | y :: r, x, h => by
    unfold plc
    by_cases e : y = x
    · exact ⟨0, by rw [if_pos e]⟩
    · rw [if_neg e]
      obtain ⟨k, hk⟩ := plc_some (ns := r) ((List.mem_cons.1 h).resolve_left (fun e2 => e e2.symm))
      exact ⟨k + 1, by rw [hk]; rfl⟩
theorem take_next9 {α : Type} {l : List α} {k : Nat} {x : α} (h : l[k]? = some x) : l.take k ++ [x] = l.take (k + 1) := by
  obtain ⟨h1, h2⟩ := List.getElem?_eq_some_iff.1 h
  rw [List.take_succ_eq_append_getElem h1, h2]
abbrev allG (bl : List Bl) : Prop := ∀ b ∈ bl, ∀ x ∈ b.fin.dest, x ∈ names bl
abbrev fewT (bl : List Bl) : Prop := ∀ b ∈ bl, b.fin.dest.length ≤ 8
set_option maxRecDepth 100000 in
set_option maxHeartbeats 8000000 in
theorem of_any9 (lo hi : Nat) (w : World) (cs : List Value) (f : Api.Func) (hf : FuncC lo hi w cs f) (hh : hi ≤ w.heap.size) (hn : f.blocks.length ≤ 60) (hG : nmG f.blocks) (hTG : toG f.blocks) (hA : allG f.blocks) (hT : fewT f.blocks) :
    Calls Tryz.prog 34 #[.agg cs.toArray] w (GP (ofV f.blocks) w) := by
  have hf0 := hf
  obtain ⟨u1, u2, u3, rfl, kp, kv, kb⟩ := hf
  obtain ⟨nm, rs, ps, vs, bl⟩ := f
  simp only at hn kp kv kb hG hTG hA hT ⊢
  obtain ⟨A1, k1, rfl⟩ := kp.form
  obtain ⟨A2, k2, rfl⟩ := kv.form
  obtain ⟨A3, k3, rfl⟩ := kb.form
  obtain ⟨W, hW⟩ : ∃ W, w.alloc (.cells #[str nm, str rs, .slice A1 ps.length k1, .slice A2 vs.length k2, .slice A3 bl.length k3] 25) = W := ⟨_, rfl⟩
  obtain ⟨o1, b1, z1⟩ := box8 (c := [str nm, str rs, .slice A1 ps.length k1, .slice A2 vs.length k2, .slice A3 bl.length k3]) hW
  have hlb : bl.length ≤ 4611686018427387903 := by obtain ⟨_, _, _, h, _⟩ := kb.get; exact h
  have KB := Lib.hid (Blocks.move (Still.of_below (b1.mono hh)) kb)
  have HO := Lib.hid o1
  have HB := Lib.hid b1
  have HW := Lib.hid hW
  have HHW : Hid (hi ≤ W.heap.size) := Lib.hid (by omega)
  have GB := Lib.hid hG
  have zlt := o1.lt
  clear o1 b1 hW kp kv kb hG
  have HF := Lib.hid hf0
  have HA := Lib.hid hA
  have HT := Lib.hid hT
  have HTG := Lib.hid hTG
  clear hf0 hA hT hTG
  have QP := Lib.hid (fplaces_any lo hi W _ _ (FuncC.move (Still.of_below (HB.out.mono hh)) HF.out) HHW.out GB.out)
  go_enter Tryz.func34, Tryz.ntmps34
  go_wp2_with fail
  rw [HW.out]
  have f0 := HO.out.cell 0
  have f1 := HO.out.cell 1
  have f2 := HO.out.cell 2
  have f3 := HO.out.cell 3
  have f4 := HO.out.cell 4
  simp only [List.getElem?_cons_succ, List.getElem?_cons_zero] at f0 f1 f2 f3 f4
  go_wp2_with fail
  refine QP.out.mono ?_
  rintro e w1 ⟨gm, rfl, hgm, hom, hb⟩
  have HM1 := Lib.hid hom
  have HU1 := Lib.hid hb
  have HO1 := Lib.hid (HO.out.below hb HO.out.lt)
  have HGM := Lib.hid (show gm < w1.heap.size by obtain ⟨_, _, h1, _⟩ := hom; exact (Array.getElem?_eq_some_iff.1 h1).1)
  clear hb hom f0 f1 f2 f3 f4
  have f0 := HO1.out.cell 0
  have f1 := HO1.out.cell 1
  have f2 := HO1.out.cell 2
  have f3 := HO1.out.cell 3
  have f4 := HO1.out.cell 4
  simp only [List.getElem?_cons_succ, List.getElem?_cons_zero] at f0 f1 f2 f3 f4
  have hmm := fun (w : World) => run_row9 (P := Tryz.prog) (t := 102) Tryz.underlying102 info_row9 rfl (by decide) bl.length (by omega) w
  obtain ⟨W2, hW2⟩ : ∃ W, w1.alloc (.cells (List.replicate bl.length (.slice none 0 0)).toArray 105) = W := ⟨_, rfl⟩
  have HGO := Lib.hid (show GOwn W2 w1.heap.size (.slice (some ⟨w1.heap.size, 0, none⟩) bl.length bl.length) (List.replicate bl.length []) by rw [← hW2]; exact gown_made bl.length w1.heap.size rfl (by omega))
  have HU2 := Lib.hid (show Below w1.heap.size w1 W2 by rw [← hW2]; exact (Below.refl _ _).alloc (Nat.le_refl _) _)
  have hW3 : w1.alloc (.cells (Array.replicate bl.length (.slice none 0 0)) 105) = W2 := by rw [← hW2]; simp
  have f5 : (w1.alloc (.cells (Array.replicate bl.length (.slice none 0 0)) 105)).cell? ⟨w.heap.size, 4, none⟩ = some (.slice A3 bl.length k3) := by
    have := (HO1.out.below (hW3 ▸ HU2.out) HO1.out.lt).cell 4
    exact this
  have HW3 := Lib.hid hW3
  clear hW2 hW3
  go_wp2_with fail
  rw [HW3.out]
  clear f0 f1 f2 f3 f4 f5
  go_loopw [19] (fun i wr => ∃ k : Nat, k ≤ bl.length ∧ i = .int .i64 k ∧ Hid (GOwn wr w1.heap.size (.slice (some ⟨w1.heap.size, 0, none⟩) bl.length bl.length) (ofK bl k)) ∧ Hid (Below w1.heap.size w1 wr)) (fun i _ => bl.length - (intOf i).toNat)
  case atStart => exact ⟨0, Nat.zero_le _, rfl, by rw [ofK_zero]; exact HGO, HU2⟩
  case round =>
  obtain ⟨k, hk, rfl, HGO, HUr⟩ := hrel
  have HBr := Lib.hid (HU1.out.trans (HUr.out.mono HU1.out.size))
  by_cases hlt : k < bl.length
  · obtain ⟨⟨bn, phs, cod, ⟨tk, ⟨ak, as_, an⟩, td, tn⟩⟩, hx⟩ : ∃ y, bl[k]? = some y := ⟨_, List.getElem?_eq_getElem hlt⟩
    obtain ⟨b3, of3, hn3, hm3, a3, j3⟩ := KB.out.get
    obtain ⟨rfl, _, hb3⟩ := a3 (by omega)
    obtain ⟨cs3, _, q3, hu⟩ := j3 k _ hx
    obtain ⟨x1, x2, x3, e1', kph, kco, x4, e2', kto⟩ := hu
    subst e2'
    subst e1'
    obtain ⟨m0, m1, m2, m3, m4, m5, m6, m7, m8⟩ := at9 (cells_later q3 HBr.out (by have := HHW.out; omega))
    obtain ⟨A5, k5, rfl⟩ := kto.form
    have KT := Lib.hid kto
    have HX := Lib.hid hx
    have htd : td.length ≤ 8 := HT.out _ (List.mem_of_getElem? hx)
    have HIN := Lib.hid (show ∀ x ∈ td, x ∈ names bl from HA.out _ (List.mem_of_getElem? hx))
    have f4 := (HO1.out.below HUr.out HO1.out.lt).cell 4
    simp only [List.getElem?_cons_succ, List.getElem?_cons_zero] at f4
    clear q3 j3 a3 hx kph kco kto
    go_wp2_with fail
    go_loopw [30] (fun i wr => ∃ j : Nat, j ≤ td.length ∧ i = .int .i64 j ∧ Hid (GOwn wr w1.heap.size (.slice (some ⟨w1.heap.size, 0, none⟩) bl.length bl.length) ((ofK bl k).set k (toL (names bl) (td.take j)))) ∧ Hid (Below w1.heap.size w1 wr)) (fun i _ => td.length - (intOf i).toNat)
    case atStart => exact ⟨0, Nat.zero_le _, rfl, by rw [show toL (names bl) (td.take 0) = [] from rfl, set_same (ofK_at hlt)]; exact HGO, HUr⟩
    case round =>
    obtain ⟨j, hj, rfl, HGO, HUr⟩ := hrel
    clear m0 m1 m2 m3 m4 m5 m6 m7 m8 f4
    have HBr2 := Lib.hid (HU1.out.trans (HUr.out.mono HU1.out.size))
    by_cases hlt2 : j < td.length
    · obtain ⟨x, hxj⟩ : ∃ y, td[j]? = some y := ⟨_, List.getElem?_eq_getElem hlt2⟩
      have kt2 := KT.out
      obtain ⟨b5, of5, hn5, hm5, a5, j5⟩ := Row.get kt2
      obtain ⟨rfl, _, hb5⟩ := a5 (show 0 < td.length by omega)
      obtain ⟨cs5, _, q5, hu5⟩ := j5 j _ hxj
      subst hu5
      have n0 := cells_later q5 HBr2.out (by have := HHW.out; omega) 0 _ rfl
      simp only [Nat.mul_one, Nat.add_zero] at n0
      clear q5 j5 a5 kt2
      have HKEY := Lib.hid (key_at (HTG.out _ (List.mem_of_getElem? HX.out) _ (List.mem_of_getElem? hxj)))
      have HMW := Lib.hid (owns_below HM1.out HUr.out HGM.out)
      obtain ⟨p, hp⟩ := plc_some (HIN.out x (List.mem_of_getElem? hxj))
      have HLK := Lib.hid (tab_found hp)
      have HTL := Lib.hid (show toL (names bl) (td.take (j + 1)) = toL (names bl) (td.take j) ++ [(p : Int)] by rw [toL_next hxj, hp]; rfl)
      have hpl : p < bl.length := by
        have := (List.getElem?_eq_some_iff.1 (plc_at hp)).1
        rwa [names_len] at this
      have hkL : k < ((ofK bl k).set k (toL (names bl) (td.take j))).length := by rw [List.length_set, ofK_len hk]; exact hlt
      obtain ⟨g0, cap, u, rest, vs, e9, hg1, hg2, hg3, hg4, hvl, hvu, hg5, hg6⟩ := HGO.out.pick (i := k) (l := toL (names bl) (td.take j)) (by rw [List.getElem?_set_self (by rw [ofK_len hk]; exact hlt)])
      rw [List.length_set, ofK_len hk] at e9 hvl
      simp only [Value.slice.injEq, Option.some.injEq, Addr.mk.injEq, and_true, true_and] at e9
      obtain ⟨rfl, rfl⟩ := e9
      obtain ⟨Au, cu, hue⟩ := any9 (w := wr) (v := u) hg5.head
      have htl : (toL (names bl) (td.take j)).length ≤ 8 := by unfold toL; rw [List.length_map, List.length_take]; omega
      obtain ⟨T, hT⟩ : ∃ T, toL (names bl) (td.take j) = T := ⟨_, rfl⟩
      rw [hT] at htl hg5 hg6 hue HTL
      obtain rfl : u = .slice Au T.length cu := hue
      have HAP := Lib.hid hg5
      have HPUT := Lib.hid hg6
      have HVL := Lib.hid (And.intro hvl hvu)
      have HTE := Lib.hid hT
      obtain ⟨ii, hi1, hi2, hi3, hi4⟩ := info_in9
      have HII : Hid (Tryz.prog.info? 3 = some ii ∧ ii.zero = some (.int .i64 0) ∧ ii.size = 1 ∧ ii.bytes = 8) := Lib.hid ⟨hi1, hi2, hi3, hi4⟩
      have hbs := HUr.out.size
      clear hi1 hi2 hi3 hi4 hg5 hg6 hvl hvu hp hxj hT hkL
      go_wp2_with (first | (at_lookup; refine look_ok _ rfl _ _ 127 rfl 9 3 lawS Tryz.underlying127 Tryz.underlying3 (zeroI _) gm bl.length _ rfl HMW.out _ _ rfl HKEY.out _ HLK.out.1 _ HLK.out.2 ?_) | (at_builtin; refine Hold.wpList_grow (R := outR _ vs :: rest) rfl _ _ 105 rfl w1.heap.size (innR (.slice Au T.length cu) T) ii _ 8 Tryz.underlying105 HII.out.1 HII.out.2.1 HII.out.2.2.1 HII.out.2.2.2 rfl Nat.one_pos rfl HAP.out [i64 (p : Int)] _ rfl rfl rfl (by intro u hu; rw [List.mem_singleton] at hu; subst hu; rfl) (by show T.length + 1 ≤ _; omega) (by show (T.length + 1) * 8 ≤ _; omega) hbs ?_; intro v7 w7 hA7 hB7; obtain ⟨A7, c7, e7⟩ := hA7.head.form; simp only at e7; subst e7; have HA7 := Lib.hid (snoc9 (l := T) hA7); have HB7 := Lib.hid (HUr.out.trans hB7); obtain ⟨t7, s7, c9⟩ := thaw9 (HA7.out.tail.head : w7.ownsRow _ _ _ _ _ _) k; replace c9 := (c9 (by show k < vs.length * 1; rw [HVL.out.1]; omega)).trans HVL.out.2; clear hA7 hB7) | go_in)
      have HGO3 := Lib.hid (HPUT.out _ _ _ HA7.out)
      rw [List.set_set, ← HTL.out] at HGO3
      have HB8 := Lib.hid (HB7.out.setCell (p := ⟨w1.heap.size, k, none⟩) (Nat.le_refl _) (.slice A7 (T.length + 1) c7))
      go_roundw
      case rel => exact ⟨j + 1, by omega, by go_num, HGO3, HB8⟩
      case measure => simp [intOf]; omega
    · have hje : j = td.length := by omega
      subst hje
      rw [List.take_of_length_le (Nat.le_refl _), ofK_next HX.out] at HGO
      go_wp2_with fail
      go_roundw
      case rel => exact ⟨k + 1, by omega, by go_num, HGO, HUr⟩
      case measure => simp [intOf]; omega
  · have hke : k = bl.length := by omega
    subst hke
    rw [ofK_end] at HGO
    go_wp2_with fail
    go_ret
    exact ⟨_, rfl, HGO.out.lower (by have := HU1.out.size; omega), HB.out.trans ((HU1.out.trans (HUr.out.mono HU1.out.size)).mono HB.out.size)⟩
end Go.Proofs.YtdgmdpphimenjaaGreatDoor.Fl9
