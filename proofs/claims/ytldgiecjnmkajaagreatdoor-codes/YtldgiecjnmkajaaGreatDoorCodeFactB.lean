/-
  OWN TEXT: one of the closed facts of the row of Codes.
-/
import Derived.Test.YtldgiecjnmkajaaGreatDoorRows
import Derived.ProofKit
import Derived.KernelRfl
namespace Go.Proofs.YtldgiecjnmkajaaGreatDoor

theorem fact_unfollowed : (Rows.codesRow.unfollowed == Tryz.pinned.checked.prog.unfollowed 3) = true := by kernel_rfl

end Go.Proofs.YtldgiecjnmkajaaGreatDoor
