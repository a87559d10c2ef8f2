/-
  Layer 15: what is alike, plainly: pairings, and how one is gathered that is forced.
-/
import Derived.Test.YtclikfeaodfmkaaHpMem
namespace Go.Proofs.Ytclikfeaodfmkaa.Hp15
open Go.RowKit Api Mem

/-- the object of that number. -/
def objAt (h : Hp) (n : Int) : Option Ob := if 1 ≤ n then h[(n - 1).toNat]? else none
theorem leads_obj {h : Hp} {v : Vl} (hl : LeadsP h v) : ∃ o, objAt h v.n = some o := by
  obtain ⟨_, h2, h3⟩ := hl
  exact ⟨h[(v.n - 1).toNat]'(by omega), by unfold objAt; rw [if_pos h2]; exact List.getElem?_eq_getElem (by omega)⟩
theorem obj_range {h : Hp} {n : Int} {o : Ob} (ho : objAt h n = some o) : 1 ≤ n ∧ n ≤ h.length ∧ h[(n - 1).toNat]? = some o := by
  unfold objAt at ho
  split at ho
  · have := (List.getElem?_eq_some_iff.1 ho).1
    exact ⟨by omega, by omega, ho⟩
  · cases ho
/-- values that are alike by a pairing. -/
def AV (h k : Hp) (P : Int → Int → Prop) (x y : Vl) : Prop := x.ty = y.ty ∧ (x.ty ≠ wRef → x.n = y.n) ∧ (x.ty = wRef → (x.n = 0 ↔ y.n = 0) ∧ (LeadsP h x ↔ LeadsP k y) ∧ (LeadsP h x → P x.n y.n))
def AVs (h k : Hp) (P : Int → Int → Prop) (a b : List Vl) : Prop := a.length = b.length ∧ ∀ (i : Nat) (x y : Vl), a[i]? = some x → b[i]? = some y → AV h k P x y
def InjP (P : Int → Int → Prop) : Prop := (∀ n m m', P n m → P n m' → m = m') ∧ ∀ n n' m, P n m → P n' m → n = n'
def ClP (h k : Hp) (P : Int → Int → Prop) : Prop := ∀ n m, P n m → ∃ o p, objAt h n = some o ∧ objAt k m = some p ∧ o.cls = p.cls ∧ AVs h k P o.vals p.vals
def AlikeP (h : Hp) (a : List Vl) (k : Hp) (b : List Vl) : Prop := ∃ P, InjP P ∧ ClP h k P ∧ AVs h k P a b
theorem AV.mono {h k : Hp} {P Q : Int → Int → Prop} {x y : Vl} (hv : AV h k P x y) (hs : ∀ n m, P n m → Q n m) : AV h k Q x y := ⟨hv.1, hv.2.1, fun e => ⟨(hv.2.2 e).1, (hv.2.2 e).2.1, fun hl => hs _ _ ((hv.2.2 e).2.2 hl)⟩⟩
theorem AVs.mono {h k : Hp} {P Q : Int → Int → Prop} {a b : List Vl} (hv : AVs h k P a b) (hs : ∀ n m, P n m → Q n m) : AVs h k Q a b := ⟨hv.1, fun i x y h1 h2 => (hv.2 i x y h1 h2).mono hs⟩
abbrev PT := List (Int × Int)
def RT (T : PT) (n m : Int) : Prop := (n, m) ∈ T
/-- what is always so of the pairs that are known. -/
structure Base (h k : Hp) (T : PT) : Prop where
  fst : (T.map (·.1)).Nodup
  snd : (T.map (·.2)).Nodup
  inr : ∀ n m, (n, m) ∈ T → (∃ o, objAt h n = some o) ∧ ∃ o, objAt k m = some o
theorem Base.nil (h k : Hp) : Base h k [] := ⟨by simp, by simp, fun n m h => by cases h⟩
theorem nodup_one {α : Type} {f : α → Int} : ∀ {l : List α}, (l.map f).Nodup → ∀ {x y : α}, x ∈ l → y ∈ l → f x = f y → x = y
  | [], _, _, _, h, _, _ => by cases h
  | a :: l, hn, x, y, hx, hy, e => by
    rw [List.map_cons, List.nodup_cons] at hn
    rcases List.mem_cons.1 hx with h1 | h1 <;> rcases List.mem_cons.1 hy with h2 | h2
    · rw [h1, h2]
    · exact (hn.1 (List.mem_map.2 ⟨y, h2, by rw [← e, h1]⟩)).elim
    · exact (hn.1 (List.mem_map.2 ⟨x, h1, by rw [e, h2]⟩)).elim
    · exact nodup_one hn.2 h1 h2 e
theorem Base.inj {h k : Hp} {T : PT} (hb : Base h k T) : InjP (RT T) :=
  ⟨fun n m m' h1 h2 => by have := nodup_one hb.fst h1 h2 rfl; exact congrArg Prod.snd this, fun n n' m h1 h2 => by have := nodup_one hb.snd h1 h2 rfl; exact congrArg Prod.fst this⟩
theorem range_len : ∀ {n : Nat} {l : List Int}, l.Nodup → (∀ x ∈ l, 1 ≤ x ∧ x ≤ n) → l.length ≤ n
  | 0, l, _, hr => by
    cases l with
    | nil => simp
    | cons a l => have := hr a (by simp); omega
  | n + 1, l, hn, hr => by
    by_cases hm : ((n + 1 : Nat) : Int) ∈ l
    · have h1 : (l.erase ((n + 1 : Nat) : Int)).length ≤ n := range_len (hn.erase _) fun x hx => by
        have h2 := (List.Nodup.mem_erase_iff hn).1 hx
        have h3 := hr x h2.2
        exact ⟨h3.1, by have := h2.1; omega⟩
      rw [List.length_erase_of_mem hm] at h1
      omega
    · have h1 : l.length ≤ n := range_len hn fun x hx => by
        have h3 := hr x hx
        have : x ≠ ((n + 1 : Nat) : Int) := fun e => hm (e ▸ hx)
        exact ⟨h3.1, by omega⟩
      omega
theorem Base.len {h k : Hp} {T : PT} (hb : Base h k T) : T.length ≤ h.length := by
  have := range_len (n := h.length) hb.fst fun x hx => by
    obtain ⟨p, hp, rfl⟩ := List.mem_map.1 hx
    obtain ⟨⟨o, ho⟩, _⟩ := hb.inr p.1 p.2 hp
    have := obj_range ho
    exact ⟨this.1, this.2.1⟩
  rwa [List.length_map] at this
/-- more pairs, behind the others, which are forced. -/
structure Step (h k : Hp) (T : PT) (q : List Int) (T' : PT) (q' : List Int) (G : (Int → Int → Prop) → Prop) : Prop where
  ext : ∃ N, T' = T ++ N ∧ q' = q ++ N.map (·.1)
  ok : Base h k T'
  holds : G (RT T')
  forced : ∀ P, InjP P → (∀ n m, (n, m) ∈ T → P n m) → G P → ∀ n m, (n, m) ∈ T' → P n m
def Fails (T : PT) (G : (Int → Int → Prop) → Prop) : Prop := ∀ P, InjP P → (∀ n m, (n, m) ∈ T → P n m) → ¬ G P
variable {h k : Hp} {T T' T2 : PT} {q q' q2 : List Int} {G G' : (Int → Int → Prop) → Prop}
theorem Step.sub (s : Step h k T q T' q' G) : ∀ n m, (n, m) ∈ T → (n, m) ∈ T' := by
  obtain ⟨N, e, _⟩ := s.ext
  intro n m hm
  rw [e]
  exact List.mem_append_left _ hm
theorem Step.same (hb : Base h k T) (hg : G (RT T)) : Step h k T q T q G := ⟨⟨[], by simp, by simp⟩, hb, hg, fun P _ hs _ => hs⟩
theorem Step.weak (s : Step h k T q T' q' G) (h1 : G (RT T') → G' (RT T')) (h2 : ∀ P, G' P → G P) : Step h k T q T' q' G' := ⟨s.ext, s.ok, h1 s.holds, fun P hi hs hg => s.forced P hi hs (h2 P hg)⟩
/-- one step behind another one. -/
theorem Step.trans (s : Step h k T q T' q' G) (t : Step h k T' q' T2 q2 G') (hm : ∀ {P Q : Int → Int → Prop}, (∀ n m, P n m → Q n m) → G P → G Q) : Step h k T q T2 q2 (fun P => G P ∧ G' P) := by
  obtain ⟨N, e1, e2⟩ := s.ext
  obtain ⟨M, e3, e4⟩ := t.ext
  refine ⟨⟨N ++ M, by rw [e3, e1, List.append_assoc], by rw [e4, e2, List.append_assoc, List.map_append]⟩, t.ok, ⟨hm (fun n m h => t.sub n m h) s.holds, t.holds⟩, fun P hi hs hg => ?_⟩
  exact t.forced P hi (s.forced P hi hs hg.1) hg.2
theorem Step.fails (s : Step h k T q T' q' G) (t : Fails T' G') : Fails T (fun P => G P ∧ G' P) := fun P hi hs hg => t P hi (s.forced P hi hs hg.1) hg.2
theorem Fails.weak (f : Fails T G) (h2 : ∀ P, G' P → G P) : Fails T G' := fun P hi hs hg => f P hi hs (h2 P hg)
/-- two objects paired anew. -/
theorem step_pair {n m : Int} {o p : Ob} (hb : Base h k T) (hn : n ∉ T.map (·.1)) (hm : m ∉ T.map (·.2)) (ho : objAt h n = some o) (hp : objAt k m = some p) : Step h k T q (T ++ [(n, m)]) (q ++ [n]) (fun P => P n m) := by
  refine ⟨⟨[(n, m)], rfl, rfl⟩, ⟨?_, ?_, fun a b hab => ?_⟩, List.mem_append_right _ (by simp), fun P hi hs hg a b hab => ?_⟩
  · rw [List.map_append, List.nodup_append]
    exact ⟨hb.fst, by simp, fun a ha b hb e => by simp at hb; subst hb; exact hn (e ▸ ha)⟩
  · rw [List.map_append, List.nodup_append]
    exact ⟨hb.snd, by simp, fun a ha b hb e => by simp at hb; subst hb; exact hm (e ▸ ha)⟩
  · rcases List.mem_append.1 hab with hab | hab
    · exact hb.inr a b hab
    · simp at hab
      obtain ⟨rfl, rfl⟩ := hab
      exact ⟨⟨o, ho⟩, ⟨p, hp⟩⟩
  · rcases List.mem_append.1 hab with hab | hab
    · exact hs a b hab
    · simp at hab
      obtain ⟨rfl, rfl⟩ := hab
      exact hg
/-- .. or that are paired with others. -/
theorem fails_fst {n m was : Int} (h1 : (n, was) ∈ T) (h2 : was ≠ m) : Fails T (fun P => P n m) := fun _ hi hs hg => h2 (hi.1 n was m (hs n was h1) hg)
theorem fails_snd {n m frm : Int} (h1 : (frm, m) ∈ T) (h2 : frm ≠ n) : Fails T (fun P => P n m) := fun _ hi hs hg => h2 (hi.2 frm n m (hs frm m h1) hg)
/-- what stands while pairs are gone through: all but those that are still to be looked at have like fields. -/
structure Full (h k : Hp) (T : PT) (q : List Int) : Prop where
  base : Base h k T
  sub : ∀ n ∈ q, n ∈ T.map (·.1)
  done : ∀ n m, (n, m) ∈ T → n ∉ q → ∃ o p, objAt h n = some o ∧ objAt k m = some p ∧ o.cls = p.cls ∧ AVs h k (RT T) o.vals p.vals
theorem Full.first {a b : List Vl} (s : Step h k [] [] T q (fun P => AVs h k P a b)) : Full h k T q := by
  obtain ⟨N, e1, e2⟩ := s.ext
  simp only [List.nil_append] at e1 e2
  subst e1
  subst e2
  exact ⟨s.ok, fun n hn => hn, fun n m hm hn => absurd (List.mem_map.2 ⟨(n, m), hm, rfl⟩) hn⟩
theorem Full.next {n m : Int} {o p : Ob} (f : Full h k T (q ++ [n])) (hm : (n, m) ∈ T) (ho : objAt h n = some o) (hp : objAt k m = some p) (hc : o.cls = p.cls) (s : Step h k T q T' q' (fun P => AVs h k P o.vals p.vals)) : Full h k T' q' := by
  obtain ⟨N, e1, e2⟩ := s.ext
  refine ⟨s.ok, fun x hx => ?_, fun a b hab hna => ?_⟩
  · rw [e2] at hx
    rw [e1, List.map_append]
    rcases List.mem_append.1 hx with hx | hx
    · exact List.mem_append_left _ (f.sub x (List.mem_append_left _ hx))
    · exact List.mem_append_right _ hx
  · rw [e1] at hab
    rcases List.mem_append.1 hab with h1 | h1
    · by_cases e : a = n
      · subst e
        have e3 := f.base.inj.1 a m b hm h1
        subst e3
        exact ⟨o, p, ho, hp, hc, s.holds⟩
      · obtain ⟨o2, p2, a1, a2, a3, a4⟩ := f.done a b h1 (fun h2 => by
          rcases List.mem_append.1 h2 with h2 | h2
          · exact hna (by rw [e2]; exact List.mem_append_left _ h2)
          · simp at h2; exact e h2)
        exact ⟨o2, p2, a1, a2, a3, a4.mono fun x y hxy => s.sub x y hxy⟩
    · exact absurd (by rw [e2]; exact List.mem_append_right _ (List.mem_map.2 ⟨(a, b), h1, rfl⟩)) hna
theorem Full.last (f : Full h k T []) : ClP h k (RT T) := fun n m hm => f.done n m hm (by simp)
/-- how much is left. -/
def leftM (h : Hp) (T : PT) (q : List Int) : Nat := q.length + 2 * (h.length - T.length)
theorem left_less {n : Int} (s : Step h k T q T' q' G) : leftM h T' q' < leftM h T (q ++ [n]) := by
  obtain ⟨N, e1, e2⟩ := s.ext
  have h1 := s.ok.len
  unfold leftM
  rw [e1] at h1 ⊢
  rw [e2]
  simp only [List.length_append, List.length_map, List.length_singleton] at h1 ⊢
  omega
/-! ### what being alike means -/
theorem AV.swap {P : Int → Int → Prop} {x y : Vl} (hv : AV h k P x y) : AV k h (fun n m => P m n) y x :=
  ⟨hv.1.symm, fun hn => (hv.2.1 (fun e => hn (hv.1 ▸ e))).symm, fun e => by
    obtain ⟨a1, a2, a3⟩ := hv.2.2 (hv.1.trans e)
    exact ⟨a1.symm, a2.symm, fun hl => a3 (a2.2 hl)⟩⟩
theorem AVs.swap {P : Int → Int → Prop} {a b : List Vl} (hv : AVs h k P a b) : AVs k h (fun n m => P m n) b a := ⟨hv.1.symm, fun i x y h1 h2 => (hv.2 i y x h2 h1).swap⟩
theorem AlikeP.swap {a b : List Vl} (hv : AlikeP h a k b) : AlikeP k b h a := by
  obtain ⟨P, h1, h2, h3⟩ := hv
  refine ⟨fun n m => P m n, ⟨fun n m m' a b => h1.2 m m' n a b, fun n n' m a b => h1.1 m n n' a b⟩, fun n m hp => ?_, h3.swap⟩
  obtain ⟨o, p, a1, a2, a3, a4⟩ := h2 m n hp
  exact ⟨p, o, a2, a1, a3.symm, a4.swap⟩
/-- a heap is moved: objects stand n places further on, in k; what leads to them is moved with them. -/
def MovedV (h : Hp) (n : Int) (x y : Vl) : Prop := (LeadsP h x ∧ y = ⟨x.ty, x.n + n⟩) ∨ (¬ LeadsP h x ∧ y = x)
def MovedO (h : Hp) (n : Int) (x y : Ob) : Prop := x.cls = y.cls ∧ x.vals.length = y.vals.length ∧ ∀ (i : Nat) (v u : Vl), x.vals[i]? = some v → y.vals[i]? = some u → MovedV h n v u
/-- what is a reference leads somewhere, or is null. -/
def LeadOk (h : Hp) (x : Vl) : Prop := x.ty = wRef → ¬ LeadsP h x → x.n = 0
theorem moved_av {n : Nat} {x y : Vl} (hk : h.length + n ≤ k.length) (hm : MovedV h n x y) (hl : LeadOk h x) : AV h k (fun a b => b = a + n ∧ ∃ o, objAt h a = some o) x y := by
  rcases hm with ⟨a1, rfl⟩ | ⟨a1, rfl⟩
  · obtain ⟨b1, b2, b3⟩ := a1
    refine ⟨rfl, fun e => absurd b1 e, fun _ => ⟨⟨fun e => by omega, fun e => by simp only at e; omega⟩, ⟨fun _ => ⟨b1, by simp only; omega, by simp only; omega⟩, fun _ => ⟨b1, b2, b3⟩⟩, fun _ => ⟨rfl, leads_obj ⟨b1, b2, b3⟩⟩⟩⟩
  · refine ⟨rfl, fun _ => rfl, fun e => ⟨Iff.rfl, ⟨fun c => absurd c a1, fun c => ?_⟩, fun c => absurd c a1⟩⟩
    have := hl e a1
    have := c.2.1
    omega
theorem alike_moved {n : Nat} {a b : List Vl} (hk : h.length + n ≤ k.length) (hO : ∀ (i : Nat) (x y : Ob), h[i]? = some x → k[i + n]? = some y → MovedO h n x y) (hL : ∀ x ∈ h, ∀ v ∈ x.vals, LeadOk h v) (hab : a.length = b.length) (hV : ∀ (i : Nat) (v u : Vl), a[i]? = some v → b[i]? = some u → MovedV h n v u ∧ LeadOk h v) : AlikeP h a k b := by
  refine ⟨fun a b => b = a + n ∧ ∃ o, objAt h a = some o, ⟨fun x y z h1 h2 => by omega, fun x y z h1 h2 => by omega⟩, fun x y hxy => ?_, ⟨hab, fun i x y h1 h2 => moved_av hk (hV i x y h1 h2).1 (hV i x y h1 h2).2⟩⟩
  obtain ⟨rfl, o, ho⟩ := hxy
  obtain ⟨r1, r2, r3⟩ := obj_range ho
  obtain ⟨p, hp⟩ : ∃ p, k[(x - 1).toNat + n]? = some p := ⟨_, List.getElem?_eq_getElem (by omega)⟩
  have hm := hO _ o p r3 hp
  refine ⟨o, p, ho, by unfold objAt; rw [if_pos (by omega), show (x + (n : Int) - 1).toNat = (x - 1).toNat + n by omega]; exact hp, hm.1, hm.2.1, fun i v u h1 h2 => ?_⟩
  exact moved_av hk (hm.2.2 i v u h1 h2) (hL o (List.mem_of_getElem? r3) v (List.mem_of_getElem? h1))
/-- each thing is alike itself. -/
theorem alike_self (h : Hp) (a : List Vl) : AlikeP h a h a := by
  have hv : ∀ x : Vl, AV h h (fun a b => a = b ∧ ∃ o, objAt h a = some o) x x := fun x => ⟨rfl, fun _ => rfl, fun _ => ⟨Iff.rfl, Iff.rfl, fun hl => ⟨rfl, leads_obj hl⟩⟩⟩
  have hvs : ∀ a : List Vl, AVs h h (fun a b => a = b ∧ ∃ o, objAt h a = some o) a a := fun a => ⟨rfl, fun i x y h1 h2 => by rw [h1] at h2; cases h2; exact hv x⟩
  refine ⟨fun a b => a = b ∧ ∃ o, objAt h a = some o, ⟨fun x y z h1 h2 => h1.1 ▸ h2.1, fun x y z h1 h2 => h1.1.trans h2.1.symm⟩, fun x y hxy => ?_, hvs a⟩
  obtain ⟨rfl, o, ho⟩ := hxy
  exact ⟨o, o, ho, ho, rfl, hvs _⟩
end Go.Proofs.Ytclikfeaodfmkaa.Hp15
