/-
  OWN TEXT: one of the closed facts of the row of Lists.
-/
import Derived.Test.YtldgiecjnmkajaaGreatDoorRows
import Derived.ProofKit
import Derived.KernelRfl
namespace Go.Proofs.YtldgiecjnmkajaaGreatDoor

theorem lists_inPlace : (Rows.listsUptoRow.inPlace == Tryz.pinned.checked.prog.inPlace 4) = true := by kernel_rfl

end Go.Proofs.YtldgiecjnmkajaaGreatDoor
