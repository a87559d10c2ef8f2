/-
  What a program that is being built in memory is behind a phi, an instruction, a frame, an object. No function of a program is named here.
-/
import Derived.Test.YtdgmdpphimenjaaDoorKeep2
namespace Go.Proofs.YtdgmdpphimenjaaDoor.Tree
open Go.RowKit Api Hold Mem Syn

variable {w w' : World} {base : Nat} {r : Rec} {A B D D2 R : List Rec} {a : Act} {p : Prog} {v' : Value} {news : List Value} {N : Nat}
def inB (p : Prog) (f : Api.Block → Api.Block) : Prog := { p with funcs := Syn.last (fun x => { x with blocks := Syn.last f x.blocks }) p.funcs }
abbrev lastB (p : Prog) : List Api.Block := (p.funcs.getLast?.getD funcZ).blocks
abbrev theB (p : Prog) : Api.Block := (lastB p).getLast?.getD blockZ
theorem QInstr.mono {c : List Value} {x : Instr} (hD : ∀ F ∈ D, F ∈ D2) (h : QInstr a D c x) : QInstr a D2 c x := by
  obtain ⟨u, e, k1, k2, k3⟩ := h
  exact ⟨u, e, k1.mono hD fun _ _ h => h, k2.mono fun _ _ h => IsFrame.mono hD h, k3.mono fun _ _ h => IsVirt.mono hD h⟩

theorem Build.phi {g0 cap : Nat} {c : List Value} {x : Phi} (h : Build w base a D p N) (hne : p.funcs ≠ []) (hnb : lastB p ≠ []) (hap : Apart w base (a.l ++ D2)) (hD : ∀ F ∈ D, F ∈ D2) (hc : IsPhi D2 c x) (hc2 : c.length = 2) (g : Grew w w' base a.H v' c) (hv : a.B.v = .slice (some ⟨g0, 0, none⟩) a.B.n cap) (hN : N < 1073741824) :
    Build (w'.setCell ⟨g0, ((lastB p).length - 1) * 9 + 1, none⟩ v') base { a with H := grew a.H v' c, B := put a.B (((lastB p).length - 1) * 9 + 1) v' } D2 (inB p fun b => { b with phis := b.phis ++ [x] }) (N + 1) := by
  have hf := few_sub h.few
  have hx := few_all h.few
  refine h.inBlock hne rfl rfl rfl rfl rfl rfl rfl rfl ?_ hD (few_mk ?_) fun l hl e => ?_
  · have h1 := ap_grow (A := [a.C, a.F, a.G, a.E, a.U, a.R, a.V, a.B]) (B := [a.K, a.M, a.O] ++ D2) hap g
    exact ap_store (A := [a.C, a.F, a.G, a.E, a.U, a.R, a.V]) (B := [grew a.H v' c, a.K, a.M, a.O] ++ D2) (r := a.B) (q := ((lastB p).length - 1) * 9 + 1) (u := v') h1 hv
  · simp only
    omega
  · subst e
    refine (hl.mono (fun _ _ h => IsBlock.mono hD h) fun _ _ h => h).alter hnb fun c0 y _ hq => ?_
    obtain ⟨c2, e, h1, h2, h3⟩ := hq
    have hn := h1.2.2.1
    exact ⟨c2, by rw [e]; rfl, (h1.mono fun _ _ h => IsPhi.mono hD h).push (by omega) hc2 hc v', h2.mono (fun _ _ h => IsInstr.mono hD h) fun _ _ h => QInstr.mono hD h, IsTerm.mono hD h3⟩
theorem Build.instr {g0 cap : Nat} {u : Value} {op : Int} {dst name : Wd} {args : List Arg} (h : Build w base a D p N) (hne : p.funcs ≠ []) (hnb : lastB p ≠ []) (hap : Apart w base (a.l ++ D2)) (hD : ∀ F ∈ D, F ∈ D2) (hu : Args D2 u args) (g : Grew w w' base a.K v' [i64 op, str dst, str name, u, .slice none 0 0, .slice none 0 0]) (hv : a.B.v = .slice (some ⟨g0, 0, none⟩) a.B.n cap) (hN : N < 1073741824) :
    Build (w'.setCell ⟨g0, ((lastB p).length - 1) * 9 + 2, none⟩ v') base { a with K := grew a.K v' [i64 op, str dst, str name, u, .slice none 0 0, .slice none 0 0], B := put a.B (((lastB p).length - 1) * 9 + 2) v', M := .empty 109 4, O := .empty 113 2 } (a.O :: a.M :: D2) (inB p fun b => { b with code := b.code ++ [⟨op, dst, name, args, [], []⟩] }) (N + 1) := by
  have hf := few_sub h.few
  have hx := few_all h.few
  have hD3 : ∀ F ∈ D2, F ∈ a.O :: a.M :: D2 := fun F hF => by simp [hF]
  have hD4 : ∀ F ∈ D, F ∈ a.O :: a.M :: D2 := fun F hF => hD3 F (hD F hF)
  refine h.inBlock hne rfl rfl rfl rfl rfl rfl rfl rfl ?_ hD4 (few_mk ?_) fun l hl e => ?_
  · have h1 := ap_grow (A := [a.C, a.F, a.G, a.E, a.U, a.R, a.V, a.B, a.H]) (B := [a.M, a.O] ++ D2) hap g
    have h2 := ap_store (A := [a.C, a.F, a.G, a.E, a.U, a.R, a.V]) (B := [a.H, grew a.K v' [i64 op, str dst, str name, u, .slice none 0 0, .slice none 0 0], a.M, a.O] ++ D2) (r := a.B) (q := ((lastB p).length - 1) * 9 + 2) (u := v') h1 hv
    have h7 := ap_retire (A := [a.C, a.F, a.G, a.E, a.U, a.R, a.V, put a.B (((lastB p).length - 1) * 9 + 2) v', a.H, grew a.K v' [i64 op, str dst, str name, u, .slice none 0 0, .slice none 0 0]]) (r := a.M) (B := [a.O]) (D := D2) 109 4 h2
    exact ap_retire (A := [a.C, a.F, a.G, a.E, a.U, a.R, a.V, put a.B (((lastB p).length - 1) * 9 + 2) v', a.H, grew a.K v' [i64 op, str dst, str name, u, .slice none 0 0, .slice none 0 0], .empty 109 4]) (r := a.O) (B := []) (D := a.M :: D2) 113 2 h7
  · simp only [Rec.empty]
    omega
  · subst e
    refine (hl.mono (fun _ _ h => IsBlock.mono hD4 h) fun _ _ h => h).alter hnb fun c0 y _ hq => ?_
    obtain ⟨c2, e, h1, h2, h3⟩ := hq
    have hn := h2.2.2.1
    exact ⟨c2, by rw [e]; rfl, h1.mono fun _ _ h => IsPhi.mono hD4 h, h2.push (by omega) (fun _ _ h => IsInstr.mono hD4 h) (fun _ _ h => h.done hD4 (by simp) (by simp)) rfl ⟨u, rfl, hu.mono hD3 fun _ _ h => h, .none _ _ _, .none _ _ _⟩ v', IsTerm.mono hD4 h3⟩
theorem Build.frame {g0 cap : Nat} {c : List Value} {x : Api.Frame} (h : Build w base a D p N) (hne : p.funcs ≠ []) (hnb : lastB p ≠ []) (hnc : (theB p).code ≠ []) (hap : Apart w base (a.l ++ D2)) (hD : ∀ F ∈ D, F ∈ D2) (hc : IsFrame D2 c x) (hc2 : c.length = 4) (g : Grew w w' base a.M v' c) (hv : a.K.v = .slice (some ⟨g0, 0, none⟩) a.K.n cap) (hN : N < 1073741824) :
    Build (w'.setCell ⟨g0, ((theB p).code.length - 1) * 6 + 4, none⟩ v') base { a with M := grew a.M v' c, K := put a.K (((theB p).code.length - 1) * 6 + 4) v' } D2 (inB p fun b => { b with code := Syn.last (fun i => { i with frames := i.frames ++ [x] }) b.code }) (N + 1) := by
  have hf := few_sub h.few
  have hx := few_all h.few
  refine h.inBlock hne rfl rfl rfl rfl rfl rfl rfl rfl ?_ hD (few_mk ?_) fun l hl e => ?_
  · have h1 := ap_grow (A := [a.C, a.F, a.G, a.E, a.U, a.R, a.V, a.B, a.H, a.K]) (B := [a.O] ++ D2) hap g
    exact ap_store (A := [a.C, a.F, a.G, a.E, a.U, a.R, a.V, a.B, a.H]) (B := [grew a.M v' c, a.O] ++ D2) (r := a.K) (q := ((theB p).code.length - 1) * 6 + 4) (u := v') h1 hv
  · simp only
    omega
  · subst e
    obtain ⟨h1, h2, h3, h4, h5⟩ := hl
    refine ⟨h1, h2, by rw [last_length]; exact h3, by rw [last_length]; exact h4, ?_⟩
    rcases h5 with ⟨h5, _⟩ | ⟨init, b, cs0, c0, e0, e, h6, h7, h8⟩
    · exact absurd h5 hnb
    · refine .inr ⟨init, _, cs0, c0, by rw [e0]; exact last_snoc _ init b, e, h6.mono fun _ _ h => IsBlock.mono hD h, h7, ?_⟩
      have hb : theB p = b := by show (lastB p).getLast?.getD blockZ = b; unfold lastB; rw [e0]; simp
      obtain ⟨c2, e, k1, k2, k3⟩ := h8
      refine ⟨c2, e, k1.mono fun _ _ h => IsPhi.mono hD h, ?_, IsTerm.mono hD k3⟩
      rw [hb]
      rw [hb] at hnc
      refine (k2.mono (fun _ _ h => IsInstr.mono hD h) fun _ _ h => h).alter hnc fun ci y _ hq => ?_
      obtain ⟨u, e, q1, q2, q3⟩ := hq
      have hn := q2.2.2.1
      exact ⟨u, by rw [e]; rfl, q1.mono hD fun _ _ h => h, (q2.mono fun _ _ h => IsFrame.mono hD h).push (by omega) hc2 hc v', q3.mono fun _ _ h => IsVirt.mono hD h⟩
theorem Build.obj {g0 cap : Nat} {c : List Value} {x : Virt} (h : Build w base a D p N) (hne : p.funcs ≠ []) (hnb : lastB p ≠ []) (hnc : (theB p).code ≠ []) (hap : Apart w base (a.l ++ D2)) (hD : ∀ F ∈ D, F ∈ D2) (hc : IsVirt D2 c x) (hc2 : c.length = 2) (g : Grew w w' base a.O v' c) (hv : a.K.v = .slice (some ⟨g0, 0, none⟩) a.K.n cap) (hN : N < 1073741824) :
    Build (w'.setCell ⟨g0, ((theB p).code.length - 1) * 6 + 5, none⟩ v') base { a with O := grew a.O v' c, K := put a.K (((theB p).code.length - 1) * 6 + 5) v' } D2 (inB p fun b => { b with code := Syn.last (fun i => { i with objs := i.objs ++ [x] }) b.code }) (N + 1) := by
  have hf := few_sub h.few
  have hx := few_all h.few
  refine h.inBlock hne rfl rfl rfl rfl rfl rfl rfl rfl ?_ hD (few_mk ?_) fun l hl e => ?_
  · have h1 := ap_grow (A := [a.C, a.F, a.G, a.E, a.U, a.R, a.V, a.B, a.H, a.K, a.M]) (B := D2) hap g
    exact ap_store (A := [a.C, a.F, a.G, a.E, a.U, a.R, a.V, a.B, a.H]) (B := [a.M, grew a.O v' c] ++ D2) (r := a.K) (q := ((theB p).code.length - 1) * 6 + 5) (u := v') h1 hv
  · simp only
    omega
  · subst e
    obtain ⟨h1, h2, h3, h4, h5⟩ := hl
    refine ⟨h1, h2, by rw [last_length]; exact h3, by rw [last_length]; exact h4, ?_⟩
    rcases h5 with ⟨h5, _⟩ | ⟨init, b, cs0, c0, e0, e, h6, h7, h8⟩
    · exact absurd h5 hnb
    · refine .inr ⟨init, _, cs0, c0, by rw [e0]; exact last_snoc _ init b, e, h6.mono fun _ _ h => IsBlock.mono hD h, h7, ?_⟩
      have hb : theB p = b := by show (lastB p).getLast?.getD blockZ = b; unfold lastB; rw [e0]; simp
      obtain ⟨c2, e, k1, k2, k3⟩ := h8
      refine ⟨c2, e, k1.mono fun _ _ h => IsPhi.mono hD h, ?_, IsTerm.mono hD k3⟩
      rw [hb]
      rw [hb] at hnc
      refine (k2.mono (fun _ _ h => IsInstr.mono hD h) fun _ _ h => h).alter hnc fun ci y _ hq => ?_
      obtain ⟨u, e, q1, q2, q3⟩ := hq
      have hn := q3.2.2.1
      exact ⟨u, by rw [e]; rfl, q1.mono hD fun _ _ h => h, q2.mono fun _ _ h => IsFrame.mono hD h, (q3.mono fun _ _ h => IsVirt.mono hD h).push (by omega) hc2 hc v'⟩
end Go.Proofs.YtdgmdpphimenjaaDoor.Tree
