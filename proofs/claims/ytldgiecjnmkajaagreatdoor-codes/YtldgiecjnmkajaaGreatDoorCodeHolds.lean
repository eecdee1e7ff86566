/-
  OWN TEXT: the row of Codes.
-/
import Derived.Test.YtldgiecjnmkajaaGreatDoorCodeLift
import Derived.Test.YtldgiecjnmkajaaGreatDoorCodeFactA
import Derived.Test.YtldgiecjnmkajaaGreatDoorCodeFactB
import Derived.Test.YtldgiecjnmkajaaGreatDoorCodeFactC
import Derived.Test.YtldgiecjnmkajaaGreatDoorCodeFactD
import Derived.Test.YtldgiecjnmkajaaGreatDoorWholeA
import Derived.Test.YtldgiecjnmkajaaGreatDoorWholeB
import Derived.Test.YtldgiecjnmkajaaGreatDoorWholeC
import Derived.Test.YtldgiecjnmkajaaGreatDoorWholeD
import Derived.ProofKit
import Derived.Lib.SmallJoins
import Derived.ChangeMaps5
namespace Go.Proofs.YtldgiecjnmkajaaGreatDoor
open Go.ChangeShapes Go.WideShapes Go.ChangeAt Go.RowKit Go.Joins Go.ChangeMaps

theorem closed_codes : joinedFacts Tryz.pinned.checked.prog 3 Tryz.f3 Rows.codesSpec Rows.codesRow = true := by
  unfold joinedFacts
  rw [fact_inPlace, fact_unfollowed, fact_recurses, fact_named, whole_laid, whole_maps, whole_stops, whole_knobs]
  kernel_rfl

theorem codes_holds : Rows.CodesSaid :=
  OpenClaim.holds_of_wide 3 Tryz.f3 rfl rfl rfl rfl rfl rfl rfl ⟨rfl, rfl, rfl, rfl, rfl⟩ rfl rfl rfl rfl rfl (by kernel_rfl) Tryz.func3 closed_codes
    (of_decide_eq_true (by kernel_rfl)) (by unfold Func.isWrapper; first | (rw [if_pos (by decide +kernel)]; kernel_rfl) | (rw [if_neg (by decide +kernel)]; exact ⟨rfl, rfl⟩))
    (fun os started H enc _ => codes_lifted os started H enc)

end Go.Proofs.YtldgiecjnmkajaaGreatDoor
