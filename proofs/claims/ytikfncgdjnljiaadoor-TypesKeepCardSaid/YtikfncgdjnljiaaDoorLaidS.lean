/-
  What the row's condition gives the walks: package syntax's words lie where they are laid.
-/
import Derived.Test.YtikfncgdjnljiaaDoorRows
import Derived.Test.YtikfncgdjnljiaaDoorGrB
import Derived.Lib.LaidU8
import Derived.LaidMore
import Derived.MakeChecks
import Derived.KernelRfl
namespace Go.Proofs.YtikfncgdjnljiaaDoor.Rd5
open Go.RowKit Api Syn WordM

theorem swords_named : Tryd.prog.globalNamed "lateen/syntax.words" = some 0 := by kernel_rfl
theorem swords_type : (Tryd.prog.globals[0]?).map (·.type) = some 127 := by kernel_rfl
theorem swords_cells : Tryd.prog.cellsOf 9 = 1 := by kernel_rfl
/-- The words' datum. -/
theorem swords_datum : (Rows.laid_lateen_syntax_words : DataW Unit) = .agg (opWords.map fun x => .lit (.string x)) := rfl

theorem laid_of {W : World} {L : List (String × DataW Unit)} (h : laidMet Tryd.prog L W) (hm : ("lateen/syntax.words", (Rows.laid_lateen_syntax_words : DataW Unit)) ∈ L) : LaidS W := by
  have hr := Lib.laidMet.reads h hm
  obtain ⟨g, t, cs, f, p, hg, ht, hv, hd⟩ := hr
  obtain rfl := Option.some.inj (swords_named.symm.trans hg)
  obtain rfl := Option.some.inj (swords_type.symm.trans ht)
  rw [swords_datum] at hd
  intro i x hx
  have hi : i < 35 := (List.getElem?_eq_some_iff.1 hx).1
  obtain ⟨f2, d, q, hdi, he⟩ := Lib.array_elem Tryd.underlying127 hd i hi
  rw [List.getElem?_map, hx] at hdi
  obtain rfl := Option.some.inj hdi
  obtain ⟨s, hs, hx2, _⟩ := DataW.trod_string Tryd.underlying9 he
  have e1 : s.data.toList = x := by
    have := congrArg Prod.fst hx2
    simpa using this.symm
  have hc := World.var?_cell hg hv i
  rw [hc]
  rw [swords_cells, Nat.mul_one] at hs
  have e2 : cs.toList[i]? = some (.string s) := by
    have := congrArg (·[0]?) hs
    simpa using this
  rw [Array.getElem?_toList] at e2
  rw [e2, ← e1]
/-- The condition of the laws that lay package syntax's words alone. -/
theorem laid_swords {W : World} (h : laidMetH Tryd.prog [("lateen/syntax.words", Rows.laid_lateen_syntax_words)] W) : LaidS W := by
  rw [MakeChecks.laidMetH_plain _ _ _ (by kernel_rfl)] at h
  exact laid_of h (.head _)
/-- .. of the law that lays the document's words as well. -/
theorem laid_swords2 {W : World} (h : laidMetH Tryd.prog [("lateen/lateenref05.words", Rows.laid_lateen_lateenref05_words), ("lateen/syntax.words", Rows.laid_lateen_syntax_words)] W) : LaidS W := by
  rw [MakeChecks.laidMetH_plain _ _ _ (by kernel_rfl)] at h
  exact laid_of h (.tail _ (.head _))
end Go.Proofs.YtikfncgdjnljiaaDoor.Rd5
