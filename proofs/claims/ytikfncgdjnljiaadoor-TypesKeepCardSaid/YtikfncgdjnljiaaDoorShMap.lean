/-
  Layer 8: the maps that package shape makes: from names to places, and sets of names.
-/
import Derived.Test.YtikfncgdjnljiaaDoorShP
import Derived.Test.YtikfncgdjnljiaaDoorProg
import Derived.Test.YtikfncgdjnljiaaDoorMem
import Derived.Maps.OwnSet
namespace Go.Proofs.YtikfncgdjnljiaaDoor.Sh8
open Go.RowKit Api Mem Go.Maps

abbrev kS (x : Wd) : Lit := .string x
abbrev dI (n : Int) : DataW Unit := .lit (.int .i64 n)
/-- Names, each with the place of the first one. -/
def tab : Nat → List Wd → DataW Unit
  | _, [] => .map []
  | i, x :: r => (tab (i + 1) r).put (kS x) (dI i)
theorem keyS (x : Wd) : WideAt.IsKeyLit (kS x) := by simp [WideAt.IsKeyLit]
theorem tab_tidy : ∀ (i : Nat) (ns : List Wd), Tidy (tab i ns)
  | _, [] => tidy_empty
  | i, x :: r => (tab_tidy (i + 1) r).put (keyS x) _
theorem kS_ne {x y : Wd} (h : x ≠ y) : kS x ≠ kS y := fun e => h (by injection e)
theorem tab_has : ∀ (i : Nat) (ns : List Wd) (x : Wd), has (tab i ns) (kS x) = (plc ns x).isSome
  | _, [], x => rfl
  | i, y :: r, x => by
    unfold tab plc
    split
    · rename_i e
      subst e
      rw [has_put_same (tab_tidy _ _).isMap (keyS _)]
      rfl
    · rename_i e
      rw [has_put_other (kS_ne (fun h => e h.symm)), tab_has]
      simp
theorem tab_at : ∀ (i : Nat) (ns : List Wd) (x : Wd), (tab i ns).atKey (kS x) (dI 0) = dI (match plc ns x with | some k => ((i + k : Nat) : Int) | none => 0)
  | _, [], x => rfl
  | i, y :: r, x => by
    by_cases e : y = x
    · subst e
      simp only [tab, plc, if_pos]
      rw [atKey_put_same (tab_tidy _ _).isMap (keyS _)]
      simp
    · simp only [tab, plc, if_neg e]
      rw [atKey_put_other (kS_ne (fun h => e h.symm)), tab_at]
      cases plc r x with
      | none => rfl
      | some k =>
        simp only [Option.map_some]
        rw [show i + 1 + k = i + (k + 1) by omega]
theorem tab_size_le : ∀ (i : Nat) (ns : List Wd), size (tab i ns) ≤ ns.length
  | _, [] => by simp [tab, size]
  | i, x :: r => by
    unfold tab
    rw [size_put (tab_tidy _ _)]
    have := tab_size_le (i + 1) r
    split <;> simp <;> omega
theorem tab_size : ∀ (i : Nat) (ns : List Wd), (size (tab i ns) = ns.length ↔ ns.Nodup)
  | _, [] => by simp [tab, size]
  | i, x :: r => by
    unfold tab
    rw [size_put (tab_tidy _ _), tab_has]
    have h1 := tab_size_le (i + 1) r
    have h2 := tab_size (i + 1) r
    rw [List.nodup_cons, ← h2]
    cases hp : plc r x with
    | none =>
      have := plc_none.1 hp
      simp [this]
    | some k =>
      have : x ∈ r := List.mem_of_getElem? (plc_at hp)
      simp [this]
      omega
/-- A set of names. -/
def setD (l : List Wd) : DataW Unit := setOf (.agg []) (l.map kS)
theorem setD_nil : setD [] = .map [] := rfl
theorem setD_snoc (l : List Wd) (x : Wd) : setD (l ++ [x]) = (setD l).put (kS x) (.agg []) := by
  unfold setD
  rw [List.map_append]
  exact setOf_snoc _ _ _
theorem keys_all (l : List Wd) : ∀ x ∈ l.map kS, WideAt.IsKeyLit x := by
  intro x hx
  obtain ⟨y, _, rfl⟩ := List.mem_map.1 hx
  exact keyS y
theorem setD_tidy (l : List Wd) : Tidy (setD l) := tidy_setOf _ _ (keys_all l)
theorem setD_has_n : ∀ (n : Nat) (l : List Wd) (x : Wd), l.length = n → has (setD l) (kS x) = decide (x ∈ l)
  | 0, l, x, h => by
    have : l = [] := List.eq_nil_of_length_eq_zero h
    subst this
    rfl
  | n + 1, l, x, h => by
    rcases List.eq_nil_or_concat l with e | ⟨r, y, e⟩
    · subst e; cases h
    · subst e
      simp at h
      rw [List.concat_eq_append, setD_snoc]
      by_cases e2 : x = y
      · subst e2
        rw [has_put_same (setD_tidy r).isMap (keyS _)]
        simp
      · rw [has_put_other (kS_ne e2), setD_has_n n r x h]
        simp [e2]
theorem setD_has (l : List Wd) (x : Wd) : has (setD l) (kS x) = decide (x ∈ l) := setD_has_n _ l x rfl
theorem setD_size_n : ∀ (n : Nat) (l : List Wd), l.length = n → size (setD l) ≤ l.length ∧ (size (setD l) = l.length ↔ l.Nodup)
  | 0, l, h => by
    have : l = [] := List.eq_nil_of_length_eq_zero h
    subst this
    simp [setD_nil, size]
  | n + 1, l, h => by
    rcases List.eq_nil_or_concat l with e | ⟨r, y, e⟩
    · subst e; cases h
    · subst e
      simp at h
      obtain ⟨h1, h2⟩ := setD_size_n n r h
      rw [List.concat_eq_append, setD_snoc, size_put (setD_tidy r), setD_has, List.nodup_append, ← h2]
      by_cases e2 : y ∈ r
      · rw [if_pos (by simpa using e2)]
        simp only [List.length_append, List.length_singleton]
        refine ⟨by omega, by omega, fun hh => absurd rfl (hh.2.2 y e2 y (by simp))⟩
      · rw [if_neg (by simpa using e2)]
        simp only [List.length_append, List.length_singleton]
        refine ⟨by omega, fun hh => ⟨by omega, by simp, fun a ha b hb e3 => ?_⟩, fun hh => by omega⟩
        simp at hb
        subst hb
        exact e2 (e3 ▸ ha)
theorem setD_size_le (l : List Wd) : size (setD l) ≤ l.length := (setD_size_n _ l rfl).1
theorem setD_size (l : List Wd) : size (setD l) = l.length ↔ l.Nodup := (setD_size_n _ l rfl).2

/-! ### the look-ups, with what comes back written out -/
section
variable {P : Program} (w : World) {ops : Array Oper} {rest : List Oper} {o : Oper} {a : Go.Act} {Q : Exit → Go.Act → World → Prop}
theorem look_ok (hg : o.guard = none) (m x : Operand) (t : TypeId) (hop : o.op = Op.lookup t m x true)
    (k e : TypeId) (K : Keyed P k) (ht : P.underlying t = some (.map k e)) (he : P.underlying e = some (.int .i64)) (hz : (zeroValue e).run P w = .ok (.int .i64 0) w) (b n : Nat) (D : DataW Unit)
    (hm : a.eval m = .map (some b)) (hown : w.ownsMap P k (plainElem P e) b n D) (key : Value) (kl : Lit) (hx : a.eval x = key) (hkey : keyOf P k key = some kl)
    (c : Int) (hat : D.atKey kl (dI 0) = dI c) (d : Bool) (hd : has D kl = d) (hK : wpList P ops Q rest (a.put o.dst (.tuple #[.int .i64 c, .bool d])) w) :
    wpList P ops Q (o :: rest) a w :=
  wpList_lookup_own_ok_int w hg m x t hop k e .i64 K ht he hz b n D hm hown key kl hx hkey (fun c' h1 _ => by
    rw [hat] at h1
    injection h1 with h1
    injection h1 with _ h1
    rw [hd, ← h1]
    exact hK)
theorem look_one (hg : o.guard = none) (m x : Operand) (t : TypeId) (hop : o.op = Op.lookup t m x false)
    (k e : TypeId) (K : Keyed P k) (ht : P.underlying t = some (.map k e)) (he : P.underlying e = some (.int .i64)) (hz : (zeroValue e).run P w = .ok (.int .i64 0) w) (b n : Nat) (D : DataW Unit)
    (hm : a.eval m = .map (some b)) (hown : w.ownsMap P k (plainElem P e) b n D) (key : Value) (kl : Lit) (hx : a.eval x = key) (hkey : keyOf P k key = some kl)
    (c : Int) (hat : D.atKey kl (dI 0) = dI c) (hK : wpList P ops Q rest (a.put o.dst (.int .i64 c)) w) :
    wpList P ops Q (o :: rest) a w :=
  wpList_lookup_own_int w hg m x t hop k e .i64 K ht he hz b n D hm hown key kl hx hkey (fun c' h1 _ => by
    rw [hat] at h1
    injection h1 with h1
    injection h1 with _ h1
    rw [← h1]
    exact hK)
theorem look_in (hg : o.guard = none) (m x : Operand) (t : TypeId) (hop : o.op = Op.lookup t m x true)
    (k e : TypeId) (K : Keyed P k) (ht : P.underlying t = some (.map k e)) (hz : (zeroValue e).run P w = .ok (.agg #[]) w) (b n : Nat) (D : DataW Unit)
    (hm : a.eval m = .map (some b)) (hown : w.ownsMap P k unitElem b n D) (key : Value) (kl : Lit) (hx : a.eval x = key) (hkey : keyOf P k key = some kl)
    (d : Bool) (hd : has D kl = d) (hK : wpList P ops Q rest (a.put o.dst (.tuple #[.agg #[], .bool d])) w) :
    wpList P ops Q (o :: rest) a w :=
  wpList_lookup_own_unit w hg m x t hop k e K ht hz b n D hm hown key kl hx hkey (by rw [hd]; exact hK)
end
theorem lawS : Keyed Tryd.prog 9 := string_keyed Tryd.underlying9
theorem zeroI (w : World) : (zeroValue 3).run Tryd.prog w = .ok (.int .i64 0) w := by kernel_rfl
theorem zeroU (w : World) : (zeroValue 137).run Tryd.prog w = .ok (.agg #[]) w := by kernel_rfl
/-- A name as a key. -/
theorem key_at {x : Wd} (h : x.length ≤ 140737488351232) : keyOf Tryd.prog 9 (str x) = some (kS x) := Go.WideMaps.keyOf_string_mk Tryd.underlying9 (by simp [maxLen, ByteArray.size]; omega)
end Go.Proofs.YtikfncgdjnljiaaDoor.Sh8
