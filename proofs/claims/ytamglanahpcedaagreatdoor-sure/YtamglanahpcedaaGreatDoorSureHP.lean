/-
  PROVED HERE: mailbagkeep.Sure answers true for every list of messages that come in, and leaves it as it was, where the listed package-level variables of Go's library hold what the program's text lays there (the tied card).
-/
import Derived.Test.YtamglanahpcedaaGreatDoorSureRL
import Derived.Test.YtamglanahpcedaaGreatDoorSureFacts
import Derived.Test.YtamglanahpcedaaGreatDoorWholeM
import Derived.ProofKit
import Derived.Lib.SmallJoins
import Derived.ChangeMaps5
import Derived.Test.YtamglanahpcedaaGreatDoorTie
import Derived.Test.YtamglanahpcedaaGreatDoorCards
import Derived.SevenTiedAt
namespace Go.Proofs.YtamglanahpcedaaGreatDoor
open Go.ChangeShapes Go.WideShapes Go.ChangeAt Go.RowKit Go.Joins Go.ChangeMaps

theorem closed_sure : joinedFacts Tryz.pinned.checked.prog 3 Tryz.f3 Rows.sureSpec Rows.sureRow = true := by
  unfold joinedFacts
  rw [sure_inPlace, sure_unfollowed, sure_recurses, sure_named, whole_laid, whole_maps, whole_stops, whole_knobs]
  kernel_rfl

theorem sure_holds : Rows.SureSaid :=
  OpenClaim.holds_of_wide 3 Tryz.f3 rfl rfl rfl rfl rfl rfl rfl ⟨rfl, rfl, rfl, rfl, rfl⟩ rfl rfl rfl rfl rfl (by kernel_rfl) Tryz.func3 closed_sure
    (of_decide_eq_true (by kernel_rfl)) (by unfold Func.isWrapper; first | (rw [if_pos (by decide +kernel)]; kernel_rfl) | (rw [if_neg (by decide +kernel)]; exact ⟨rfl, rfl⟩))
    (fun os started H enc _ => sure_lifted os started H enc)

end Go.Proofs.YtamglanahpcedaaGreatDoor
namespace Go.Proofs.YtamglanahpcedaaGreatDoor
open Go.ChangeShapes Go.WideShapes Go.ChangeAt Go.RowKit Go.Joins Go.ChangeMaps

theorem sure_stand (f : FuncId) (fn : Func) (hf : Tryz.pinned.checked.prog.funcNamed Rows.sureRow.func = some f) (hfn : Tryz.pinned.checked.prog.funcs[f]? = some fn) : true = Tryz.pinned.checked.prog.looks [] ∧ ∀ (j : Nat) t, fn.params[j]? = some t → Tryz.pinned.checked.prog.wantsStandIn t = false := by
  obtain rfl : f = 3 := Option.some.inj ((show Tryz.prog.funcNamed "mailbag/mailbagkeep.Sure" = some 3 by kernel_rfl).symm.trans hf) |>.symm
  obtain rfl : fn = Tryz.f3 := (Option.some.inj (Tryz.func3.symm.trans hfn)).symm
  exact ⟨fact_looks, fun j t ht => by
    rw [Tryz.params3] at ht
    have hm : t ∈ [22] := by simpa using Array.mem_of_getElem? ht
    have hall : ([22].all fun u => !Tryz.prog.wantsStandIn u) = true := by kernel_rfl
    exact (show Tryz.prog.wantsStandIn t = false by simpa using List.all_eq_true.1 hall t hm)⟩

theorem sure_card : Rows.SureCardSaid :=
  Claim7.holds_tied_plain_at .later [] _ _ _ _
    sure_holds (fun _ h => by cases h) (by kernel_rfl) (fun _ h => by cases h) sure_row_tie rfl ⟨rfl, rfl⟩ (by kernel_rfl) rfl
    sure_stand (goesBy_gen funcs_go rfl)

end Go.Proofs.YtamglanahpcedaaGreatDoor
