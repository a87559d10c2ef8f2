/-
  DERIVED. GIVEN WITH THE SEED: THE PROGRAM's TIES (one call each: nine closed facts by the kernel) AND EACH ROW's TIE, after the 31st guide's Derived/Test/Toyas{Tie, Card}.lean. No idea stands in it: it is a product of the set-up. Laid BY PROGRAM, IN A SANDBOX (cutbox-door.mjs). By AI agents, Wed Nov 11 2026. No macro, syntax, notation, axiom, sorry.
-/
import Derived.Test.YtdgmdpphimenjaaDoorRows
import Derived.LaidByTextLater
import Derived.SevenTiedAt
import Derived.LaidSub
import Derived.LaidOnce
namespace Go.Proofs.YtdgmdpphimenjaaDoor
open Go
set_option maxRecDepth 100000
theorem seatTie1 : Tryd.prog.laidByTextLater [("lateen/lateenref05.words", Rows.laid_lateen_lateenref05_words), ("lateen/syntax.words", Rows.laid_lateen_syntax_words)] [.data, .data] true :=
  Program.laidByTextLater_by_one 19 8 36 (by kernel_rfl) (by kernel_rfl) (by kernel_rfl) (by kernel_rfl) (by kernel_rfl) (by kernel_rfl) (fun _ _ => by kernel_rfl)
theorem noOwnUnsafe : Tryd.pinned.checked.prog.headLifts.contains "ownunsafe" = false := by kernel_rfl
theorem tie : Tryd.prog.laidByTextLater [("lateen/lateenref05.words", Rows.laid_lateen_lateenref05_words), ("lateen/syntax.words", Rows.laid_lateen_syntax_words)] [.data, .data] true :=
  Program.laidByTextLater.sub seatTie1 ["lateen/lateenref05.words", "lateen/syntax.words"] (by kernel_rfl) (by kernel_rfl)
theorem showKeeps_row_tie : Rows.showKeepsRow.laidByTextAt .later Tryd.pinned [.data, .data] true :=
  OpenClaim.laidByTextAt_later rfl rfl tie noOwnUnsafe
theorem tie2 : Tryd.prog.laidByTextLater [("lateen/lateenref05.words", Rows.laid_lateen_lateenref05_words)] [.data] true :=
  Program.laidByTextLater.sub seatTie1 ["lateen/lateenref05.words"] (by kernel_rfl) (by kernel_rfl)
theorem liveKeeps_row_tie : Rows.liveKeepsRow.laidByTextAt .later Tryd.pinned [.data] true :=
  OpenClaim.laidByTextAt_later rfl rfl tie2 noOwnUnsafe
theorem showKeepsUpto_row_tie : Rows.showKeepsUptoRow.laidByTextAt .later Tryd.pinned [.data, .data] true :=
  OpenClaim.laidByTextAt_later rfl rfl tie noOwnUnsafe
theorem liveKeepsUpto_row_tie : Rows.liveKeepsUptoRow.laidByTextAt .later Tryd.pinned [.data] true :=
  OpenClaim.laidByTextAt_later rfl rfl tie2 noOwnUnsafe
end Go.Proofs.YtdgmdpphimenjaaDoor
