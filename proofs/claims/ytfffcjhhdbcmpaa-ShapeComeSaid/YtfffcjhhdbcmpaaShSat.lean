/-
  Layer 8, plain: as many rounds as there are blocks mark all that can be come to.
-/
import Derived.Test.YtfffcjhhdbcmpaaShFix
namespace Go.Proofs.Ytfffcjhhdbcmpaa.Sh8
open Api

def Cl (bl : List Bl) (C : List Bool) : Prop := ∀ (a q : Nat), C[a]? = some true → Lds bl a q → C[q]? = some true
structure Sat (bl : List Bl) (C0 C : List Bool) (i : Nat) (d : List Wd) : Prop where
  len : C.length = bl.length
  zero : C[0]? = some true
  sub : ∀ (p : Nat), C0[p]? = some true → C[p]? = some true
  cnt : cntT C0 ≤ cntT C
  grew : C = C0 ∨ cntT C0 + 1 ≤ cntT C
  keep : Cl bl C0 → C = C0
  shut : ∀ (a q : Nat), a < i → C0[a]? = some true → Lds bl a q → C[q]? = some true
  part : C0[i]? = some true → ∀ x ∈ d, ∀ (p : Nat), plc (names bl) x = some p → C[p]? = some true
variable {bl : List Bl} {C0 C : List Bool} {i p r : Nat} {d : List Wd} {x : Wd}
theorem sat_start (hl : C0.length = bl.length) (h0 : C0[0]? = some true) : Sat bl C0 C0 0 [] :=
  ⟨hl, h0, fun _ h => h, Nat.le_refl _, .inl rfl, fun _ => rfl, fun a q ha => (by omega), fun _ x hx => by cases hx⟩
theorem Sat.skip (h : Sat bl C0 C i d) (hp : plc (names bl) x = some p) (hc : C[p]? = some true ∨ C[i]? = some false) : Sat bl C0 C i (d ++ [x]) :=
  ⟨h.len, h.zero, h.sub, h.cnt, h.grew, h.keep, h.shut, fun hi y hy q hq => by
    rcases List.mem_append.1 hy with hy | hy
    · exact h.part hi y hy q hq
    · simp at hy
      subst hy
      rw [hp] at hq
      cases hq
      rcases hc with hc | hc
      · exact hc
      · have := h.sub i hi
        rw [hc] at this
        cases this⟩
theorem Sat.mark {b : Bl} (h : Sat bl C0 C i d) (hb : bl[i]? = some b) (hx : x ∈ b.fin.dest) (hp : plc (names bl) x = some p) (hc : C[p]? = some false) (hi : C[i]? = some true) : Sat bl C0 (C.set p true) i (d ++ [x]) := by
  have hself : (C.set p true)[p]? = some true := List.getElem?_set_self (List.getElem?_eq_some_iff.1 hc).1
  refine ⟨by simp [h.len], set_true h.zero, fun q hq => set_true (h.sub q hq), by rw [cnt_set hc]; have := h.cnt; omega, .inr (by rw [cnt_set hc]; have := h.cnt; omega), fun hcl => ?_, fun a q ha h1 h2 => set_true (h.shut a q ha h1 h2), fun h1 y hy q hq => ?_⟩
  · have e := h.keep hcl
    subst e
    have := hcl i p hi ⟨b, hb, x, hx, hp⟩
    rw [hc] at this
    cases this
  · rcases List.mem_append.1 hy with hy | hy
    · exact set_true (h.part h1 y hy q hq)
    · simp at hy
      subst hy
      rw [hp] at hq
      cases hq
      exact hself
theorem Sat.next {b : Bl} (h : Sat bl C0 C i b.fin.dest) (hb : bl[i]? = some b) : Sat bl C0 C (i + 1) [] :=
  ⟨h.len, h.zero, h.sub, h.cnt, h.grew, h.keep, fun a q ha h1 h2 => by
    by_cases e : a < i
    · exact h.shut a q e h1 h2
    · obtain rfl : a = i := by omega
      obtain ⟨c, hc, y, hy, hq⟩ := h2
      rw [hb] at hc
      cases hc
      exact h.part h1 y hy q hq, fun _ x hx => by cases hx⟩
/-- after so many rounds: nothing more is to be marked, or so many are. -/
def Rnd (bl : List Bl) (C : List Bool) (r : Nat) : Prop := C.length = bl.length ∧ C[0]? = some true ∧ (Cl bl C ∨ r + 1 ≤ cntT C)
theorem rnd_start (h : 0 < bl.length) : Rnd bl ((List.replicate bl.length false).set 0 true) 0 := by
  have hz : (List.replicate bl.length false)[0]? = some false := by simp [h]
  exact ⟨by simp, List.getElem?_set_self (by simpa using h), .inr (by rw [cnt_set hz]; omega)⟩
theorem Rnd.next (h : Rnd bl C0 r) (s : Sat bl C0 C i d) (hi : bl.length ≤ i) : Rnd bl C (r + 1) := by
  refine ⟨s.len, s.zero, ?_⟩
  have hcl : C = C0 → Cl bl C := fun e a q h1 h2 => by
    have ha := (List.getElem?_eq_some_iff.1 h1).1
    rw [s.len] at ha
    exact s.shut a q (by omega) (by rw [← e]; exact h1) h2
  rcases h.2.2 with h3 | h3
  · exact .inl (hcl (s.keep h3))
  · rcases s.grew with e | e
    · exact .inl (hcl e)
    · exact .inr (by omega)
theorem Rnd.fin (h : Rnd bl C r) (hr : bl.length ≤ r) (hR : RightP bl) : ∀ (p : Nat), p < bl.length → C[p]? = some true := by
  obtain ⟨h1, h2, h3⟩ := h
  have hcl : Cl bl C := by
    rcases h3 with h3 | h3
    · exact h3
    · have := cnt_le C
      omega
  intro p hp
  exact all_true hR.2.1 h1 h2 (fun i b hb hi x hx q hq => hcl i q hi ⟨b, hb, x, hx, hq⟩) hR.2.2.2 p (by omega)
end Go.Proofs.Ytfffcjhhdbcmpaa.Sh8
