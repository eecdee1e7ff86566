/-
  OWN TEXT: one of the closed facts of the row of Lists.
-/
import Derived.Test.YtldgiecjnmkajaaGreatDoorRows
import Derived.ProofKit
import Derived.KernelRfl
namespace Go.Proofs.YtldgiecjnmkajaaGreatDoor

theorem lists_recurses : (Rows.listsUptoRow.recurses == Tryz.pinned.checked.prog.recurses 4) = true := by kernel_rfl

end Go.Proofs.YtldgiecjnmkajaaGreatDoor
