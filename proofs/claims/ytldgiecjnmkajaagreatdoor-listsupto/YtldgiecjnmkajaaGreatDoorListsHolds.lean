/-
  OWN TEXT: the row of Lists.
-/
import Derived.Test.YtldgiecjnmkajaaGreatDoorListsLift
import Derived.Test.YtldgiecjnmkajaaGreatDoorListsFactA
import Derived.Test.YtldgiecjnmkajaaGreatDoorListsFactB
import Derived.Test.YtldgiecjnmkajaaGreatDoorListsFactC
import Derived.Test.YtldgiecjnmkajaaGreatDoorListsFactD
import Derived.Test.YtldgiecjnmkajaaGreatDoorWholeA
import Derived.Test.YtldgiecjnmkajaaGreatDoorWholeB
import Derived.Test.YtldgiecjnmkajaaGreatDoorWholeC
import Derived.Test.YtldgiecjnmkajaaGreatDoorWholeD
import Derived.ProofKit
import Derived.Lib.SmallJoins
import Derived.ChangeMaps5
namespace Go.Proofs.YtldgiecjnmkajaaGreatDoor
open Go.ChangeShapes Go.WideShapes Go.ChangeAt Go.RowKit Go.Joins Go.ChangeMaps

theorem closed_lists : joinedFacts Tryz.pinned.checked.prog 4 Tryz.f4 (Rows.OpenSpec.upto Rows.listsSpec).bare Rows.listsUptoRow = true := by
  unfold joinedFacts
  rw [lists_inPlace, lists_unfollowed, lists_recurses, lists_named, whole_laid, whole_maps, whole_stops, whole_knobs]
  kernel_rfl

theorem lists_holds : Rows.ListsUptoSaid :=
  OpenClaim.holds_of_cond 4 Tryz.f4 rfl rfl rfl rfl rfl rfl rfl ⟨rfl, rfl, rfl, rfl, rfl⟩ rfl rfl rfl rfl rfl (by kernel_rfl) Tryz.func4 closed_lists
    (of_decide_eq_true (by kernel_rfl)) (by unfold Func.isWrapper; first | (rw [if_pos (by decide +kernel)]; kernel_rfl) | (rw [if_neg (by decide +kernel)]; exact ⟨rfl, rfl⟩))
    (fun os started H enc _ F => by rw [OpenClaim.pre_eq_preRow]; exact lists_lifted os started H enc F)

end Go.Proofs.YtldgiecjnmkajaaGreatDoor
