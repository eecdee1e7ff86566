/-
  OWN TEXT: one of the closed facts of the card of Codes.
-/
import Derived.Test.YtldgiecjnmkajaaGreatDoorRows
import Derived.ProofKit
import Derived.SevenTiedAt
import Derived.KernelRfl
namespace Go.Proofs.YtldgiecjnmkajaaGreatDoor

theorem fact_looks : true = Tryz.pinned.checked.prog.looks [] := by kernel_rfl

end Go.Proofs.YtldgiecjnmkajaaGreatDoor
