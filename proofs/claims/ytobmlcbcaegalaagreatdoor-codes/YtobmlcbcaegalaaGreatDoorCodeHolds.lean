/-
  OWN TEXT: the row of Codes.
-/
import Derived.Test.YtobmlcbcaegalaaGreatDoorCodeLift
import Derived.Test.YtobmlcbcaegalaaGreatDoorCodeFactA
import Derived.Test.YtobmlcbcaegalaaGreatDoorCodeFactB
import Derived.Test.YtobmlcbcaegalaaGreatDoorCodeFactC
import Derived.Test.YtobmlcbcaegalaaGreatDoorCodeFactD
import Derived.ProofKit
import Derived.Lib.SmallJoins
import Derived.ChangeMaps5
namespace Go.Proofs.YtobmlcbcaegalaaGreatDoor
open Go.ChangeShapes Go.WideShapes Go.ChangeAt Go.RowKit Go.Joins Go.ChangeMaps

theorem closed_codes : joinedFacts Tryz.pinned.checked.prog 3 Tryz.f3 Rows.codesSpec Rows.codesRow = true := by
  unfold joinedFacts
  rw [fact_inPlace, fact_unfollowed, fact_recurses, fact_named]
  kernel_rfl

theorem codes_holds : Rows.CodesSaid :=
  OpenClaim.holds_of_wide 3 Tryz.f3 rfl rfl rfl rfl rfl rfl rfl ⟨rfl, rfl, rfl, rfl, rfl⟩ rfl rfl rfl rfl rfl (by kernel_rfl) Tryz.func3 closed_codes
    (of_decide_eq_true (by kernel_rfl)) (by unfold Func.isWrapper; first | (rw [if_pos (by decide +kernel)]; kernel_rfl) | (rw [if_neg (by decide +kernel)]; exact ⟨rfl, rfl⟩))
    (fun os started H enc _ => codes_lifted os started H enc)

end Go.Proofs.YtobmlcbcaegalaaGreatDoor
