/-
  Layer 5's three texts that are always read, plainly.
-/
import Derived.Test.YtkfpcaganhmkcaaDoorPars
import Derived.KernelRfl
namespace Go.Proofs.YtkfpcaganhmkcaaDoor.Rd5
open Go.RowKit Api Syn WordM

/-- func f int, block b, x = add 1 y, ret x. -/
def awake1 : List UInt8 := [102, 117, 110, 99, 32, 102, 32, 105, 110, 116, 10, 98, 108, 111, 99, 107, 32, 98, 10, 120, 32, 61, 32, 97, 100, 100, 32, 49, 32, 121, 10, 114, 101, 116, 32, 120, 10]
def awakeP : Prog := ⟨false, [], [], [], [⟨[102], [105, 110, 116], [], [], [⟨[98], [], [⟨1, [120], [], [⟨2, [], 1⟩, ⟨1, [121], 0⟩], [], []⟩], ⟨3, ⟨1, [120], 0⟩, [], 0⟩⟩]⟩]⟩
theorem awake_1 : textE awake1 = .ok awakeP := by kernel_rfl
theorem awake_2 : textE [120, 32, 61, 32, 97, 100, 100, 32, 49, 32, 50] = .error (1, 3) := by kernel_rfl
theorem awake_3 : textE [102, 117, 110, 99, 32, 102, 32, 105, 110, 116, 10] = .error (0, 3) := by kernel_rfl
end Go.Proofs.YtkfpcaganhmkcaaDoor.Rd5
