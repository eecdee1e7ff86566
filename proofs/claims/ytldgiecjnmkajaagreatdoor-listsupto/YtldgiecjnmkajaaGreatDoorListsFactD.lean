/-
  OWN TEXT: one of the closed facts of the row of Lists.
-/
import Derived.Test.YtldgiecjnmkajaaGreatDoorRows
import Derived.ProofKit
import Derived.KernelRfl
namespace Go.Proofs.YtldgiecjnmkajaaGreatDoor

theorem lists_named : (Rows.listsUptoRow.named == Tryz.pinned.checked.prog.varsNamed 4) = true := by kernel_rfl

end Go.Proofs.YtldgiecjnmkajaaGreatDoor
