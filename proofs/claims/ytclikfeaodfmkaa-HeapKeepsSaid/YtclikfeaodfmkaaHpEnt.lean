/-
  An entry of a map that is made ahead of its value (m[k], n[l] = x, y). No program is named here.
-/
import Derived.Maps.OwnSet
import Derived.Maps.OwnOps
import Derived.Test.YtclikfeaodfmkaaMem
import Derived.WalkKit
import Derived.Laws.AppendOwn
import Derived.Below
namespace Go.Proofs.Ytclikfeaodfmkaa.Hp15
open Go.Maps Go.ChangeMaps Go.MapKept Mem
/-! ### an entry made ahead of its value -/
theorem find_last {l : List MapEntry} {x : MapEntry} {clock : Nat} (h : ∀ y ∈ l, y.born < clock) (hx : x.born = clock) : (l ++ [x]).findIdx? (fun e => (e.born : Int) == (clock : Int)) = some l.length := by
  induction l with
  | nil => simp [hx]
  | cons a l ih =>
    have h1 := h a (by simp)
    have e1 : (((a.born : Nat) : Int) == (clock : Int)) = false := by simp; omega
    rw [List.cons_append, List.findIdx?_cons, e1]
    simp only [Bool.false_eq_true, if_false]
    rw [ih fun y hy => h y (by simp [hy])]
    simp
theorem mod_last {α : Type} (f : α → α) (x : α) : ∀ l : List α, (l ++ [x]).modify l.length f = l ++ [f x]
  | [] => rfl
  | a :: l => by
    have := mod_last f x l
    simp only [List.cons_append, List.length_cons, List.modify_succ_cons, this]
theorem entry_new {H : Type} {P : Program} {t k e : TypeId} {R : Value → Option (DataW H × List MemPlace)} {w : World} {g n : Nat} {D : DataW H} (K : Keyed P k) (ht : P.underlying t = some (.map k e)) (h : w.ownsMap P k R g n D) (hn : n < maxLen) {key val z : Value} {kl : Lit} {d : DataW H} {ps : List MemPlace}
    (hkey : keyOf P k key = some kl) (hv : R val = some (d, ps)) (hz : ∀ w, (zeroValue e).run P w = .ok z w) (hno : has D kl = false) :
    ∃ w1 st, (Instr.mapEntry t (.map (some g)) key).run P w = .ok (.tuple #[z, .int .i64 st]) w1 ∧ w.grownBy w1 (some g) ∧ ∀ w2, w2.heap[g]? = w1.heap[g]? → ∃ w3, (Instr.entryStore t (.map (some g)) (.int .i64 st) val).run P w2 = .ok () w3 ∧ w3.ownsMap P k R g (n + 1) (D.put kl d) ∧ w2.grownBy w3 (some g) := by
  obtain ⟨w4, hr4, ho4, _⟩ := World.ownsMap.update h K ht hn hkey hv
  obtain ⟨es, clock, hb, F, hs, hD⟩ := h
  have h2 : ∀ x ∈ es.toList, x.key ≠ key := by
    rcases Maps.fit_look true K ht (hz w) hb F hkey with ⟨_, h2, _⟩ | ⟨e0, y, _, _, _, _, hat, _⟩
    · exact h2
    · have := Maps.has_true_of_atKey hat
      rw [← hD, hno] at this
      cases this
  rcases K.find w hkey es.toList F.keys with ⟨h1, _⟩ | ⟨j, e0, _, h3, h4⟩
  · have hrE : (Instr.mapEntry t (.map (some g)) key).run P w = .ok (.tuple #[z, .int .i64 (clock : Int)]) (setBlock w g (.map (es.push ⟨key, z, clock⟩) (clock + 1))) := by
      simp [Instr.mapEntry, run_underlying ht, MapKept.run_getObj_map hb, K.check w false hkey, h1, hz, MapKept.run_setObj_map _ hb, Result.andThen, setBlock, goInt]
    have hrU : (Instr.mapUpdate t (.map (some g)) key val).run P w = .ok () (setBlock w g (.map (es.push ⟨key, val, clock⟩) (clock + 1))) := by
      simp [Instr.mapUpdate, run_underlying ht, MapKept.run_getObj_map hb, K.check w false hkey, h1, MapKept.run_setObj_map _ hb, Result.andThen, setBlock]
    rw [hrU] at hr4
    injection hr4 with _ hw4
    subst hw4
    refine ⟨_, (clock : Int), hrE, ⟨rfl, rfl, rfl, by simp [setBlock], fun i _ hi => heap_setBlock_other hb _ (fun e => hi (by rw [e]))⟩, fun w2 hw2 => ?_⟩
    rw [heap_setBlock_same hb] at hw2
    have hf : (es.push ⟨key, z, clock⟩).findIdx? (fun e => (e.born : Int) == (clock : Int)) = some es.size := by
      rw [show es.push ⟨key, z, clock⟩ = (es.toList ++ [({ key := key, val := z, born := clock } : MapEntry)]).toArray from Array.ext' (by simp), List.findIdx?_toArray, find_last F.stamped.1 rfl]
      simp
    have hm : (es.push ⟨key, z, clock⟩).modify es.size (fun e => { e with val := val }) = es.push ⟨key, val, clock⟩ := by
      apply Array.ext'
      rw [Array.toList_modify, Array.toList_push, Array.toList_push, ← Array.length_toList, mod_last]
    have hrS : (Instr.entryStore t (.map (some g)) (.int .i64 (clock : Int)) val).run P w2 = .ok () (setBlock w2 g (.map (es.push ⟨key, val, clock⟩) (clock + 1))) := by
      simp [Instr.entryStore, MapKept.run_getObj_map hw2, asInt, asIntOf, hf, hm, MapKept.run_setObj_map _ hw2, Result.andThen, setBlock]
    refine ⟨_, hrS, ?_, ⟨rfl, rfl, rfl, by simp [setBlock], fun i _ hi => heap_setBlock_other hw2 _ (fun e => hi (by rw [e]))⟩⟩
    obtain ⟨es5, clock5, hb5, r5⟩ := ho4
    rw [heap_setBlock_same hb] at hb5
    exact ⟨es5, clock5, (heap_setBlock_same hw2 _).trans hb5, r5⟩
  · exact absurd h4 (h2 e0 (List.mem_of_getElem? h3))
/-! ### append of one -/
open Go.RowKit
theorem push15 {P : Program} {w : World} {ops : Array Oper} {rest : List Oper} {o : Oper} {a : Act} {Q : Exit → Act → World → Prop} (hgd : o.guard = none) (s x : Operand) (t : TypeId)
    (ho : o.op = .call { callee := .builtin .append, args := #[s, x], argTypes := #[t, t] })
    (base : Nat) (e : TypeId) (i : TypeInfo) (z : Value) (size bytes : Nat) (ht : P.underlying t = some (.slice e)) (hi : P.info? e = some i) (hz : i.zero = some z)
    (hsize : i.size = size) (hby : i.bytes = bytes) (hzs : z.cells.size = size) (hsz : 0 < size)
    (v : Value) (n : Nat) (xs : List Value) (hs : a.eval s = v) (hown : w.ownsRow base e size v n xs)
    (news : List Value) (hx : a.eval x = .slice (some ⟨w.heap.size, 0, none⟩) 1 1) (hl : news.length = size) (h1 : ∀ u ∈ news, u.oneCell' = true)
    (h63 : n + 1 ≤ maxLen) (hbytes : (n + 1) * bytes ≤ 140737488355328) (hbase : base ≤ w.heap.size)
    (h : ∀ v' w', w'.ownsRow base e size v' (n + 1) (xs ++ news) → w.grownBy w' v.ownBlock → wpList P ops Q rest (a.put o.dst v') w') :
    wpList P ops Q (o :: rest) a (w.alloc (.cells news.toArray e)) := by
  refine wpList_append_own (w := w.alloc (.cells news.toArray e)) hgd s x t ho base e i z size bytes ht hi hz hsize hby hzs hsz v n xs hs (hown.alloc _) ⟨w.heap.size, 0, none⟩ 1 1 news hx (by omega) ?_ h1 h63 hbytes (by simp; omega) ?_
  · intro j u hu
    have e1 : (⟨w.heap.size, 0, none⟩ : Addr).add j = ⟨w.heap.size, j, none⟩ := by unfold Addr.add; split <;> simp_all
    rw [e1, (Own.made w e news).cell]
    exact hu
  · intro v' w' h2 h3 _
    refine h v' w' h2 ⟨h3.os, h3.tape, h3.output, Nat.le_trans (by simp) h3.size, fun k hk hne => ?_⟩
    exact (h3.block k (by simp; omega) hne).trans (heap_alloc_old w _ hk)

/-- .. where the new block's number is spelled otherwise. -/
theorem push15_at {P : Program} {w : World} {ops : Array Oper} {rest : List Oper} {o : Oper} {a : Act} {Q : Exit → Act → World → Prop} (hgd : o.guard = none) (s x : Operand) (t : TypeId)
    (ho : o.op = .call { callee := .builtin .append, args := #[s, x], argTypes := #[t, t] })
    (base : Nat) (e : TypeId) (i : TypeInfo) (z : Value) (size bytes : Nat) (ht : P.underlying t = some (.slice e)) (hi : P.info? e = some i) (hz : i.zero = some z)
    (hsize : i.size = size) (hby : i.bytes = bytes) (hzs : z.cells.size = size) (hsz : 0 < size)
    (v : Value) (n : Nat) (xs : List Value) (hs : a.eval s = v) (hown : w.ownsRow base e size v n xs)
    (news : List Value) (k : Nat) (hk : k = w.heap.size) (hx : a.eval x = .slice (some ⟨k, 0, none⟩) 1 1) (hl : news.length = size) (h1 : ∀ u ∈ news, u.oneCell' = true)
    (h63 : n + 1 ≤ maxLen) (hbytes : (n + 1) * bytes ≤ 140737488355328) (hbase : base ≤ w.heap.size)
    (h : ∀ v' w', w'.ownsRow base e size v' (n + 1) (xs ++ news) → w.grownBy w' v.ownBlock → wpList P ops Q rest (a.put o.dst v') w') :
    wpList P ops Q (o :: rest) a (w.alloc (.cells news.toArray e)) := by
  subst hk
  exact push15 hgd s x t ho base e i z size bytes ht hi hz hsize hby hzs hsz v n xs hs hown news hx hl h1 h63 hbytes hbase h

end Go.Proofs.Ytclikfeaodfmkaa.Hp15
