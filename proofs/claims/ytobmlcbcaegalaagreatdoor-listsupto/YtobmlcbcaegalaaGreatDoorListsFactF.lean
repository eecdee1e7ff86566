/-
  OWN TEXT: one of the closed facts of the row of Lists.
-/
import Derived.Test.YtobmlcbcaegalaaGreatDoorRows
import Derived.ProofKit
import Derived.SevenTiedAt
import Derived.KernelRfl
namespace Go.Proofs.YtobmlcbcaegalaaGreatDoor

theorem lists_goes : false = Rows.listsUptoRow.goesBy Tryz.pinned.checked.prog := by kernel_rfl

end Go.Proofs.YtobmlcbcaegalaaGreatDoor
