/-
  OWN TEXT: a closed fact of the whole program.
-/
import Derived.Test.YtldgiecjnmkajaaGreatDoorRows
import Derived.ProofKit
import Derived.SevenTiedAt
import Derived.KernelRfl
namespace Go.Proofs.YtldgiecjnmkajaaGreatDoor

theorem whole_stops : (Tryz.pinned.checked.prog.stops == []) = true := by kernel_rfl

end Go.Proofs.YtldgiecjnmkajaaGreatDoor
