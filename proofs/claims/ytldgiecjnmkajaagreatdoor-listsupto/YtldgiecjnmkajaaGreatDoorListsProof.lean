/-
  PROVED HERE: mailbaglaw.Lists answers true for every script whose values and letters are together at most 1048576, and leaves it as it was, where the listed package-level variables of Go's library and of the document's answer hold what the program's text lays there (the tied card).
-/
import Derived.Test.YtldgiecjnmkajaaGreatDoorListsHolds
import Derived.Test.YtldgiecjnmkajaaGreatDoorCodeFactE
import Derived.Test.YtldgiecjnmkajaaGreatDoorGoes
import Derived.Test.YtldgiecjnmkajaaGreatDoorTie
import Derived.Test.YtldgiecjnmkajaaGreatDoorCards
import Derived.ProofKit
import Derived.Lib.SmallJoins
import Derived.ChangeMaps5
import Derived.SevenTiedAt
namespace Go.Proofs.YtldgiecjnmkajaaGreatDoor
open Go.ChangeShapes Go.WideShapes Go.ChangeAt Go.RowKit Go.Joins Go.ChangeMaps

theorem lists_stand (f : FuncId) (fn : Func) (hf : Tryz.pinned.checked.prog.funcNamed Rows.listsUptoRow.func = some f) (hfn : Tryz.pinned.checked.prog.funcs[f]? = some fn) : true = Tryz.pinned.checked.prog.looks [] ∧ ∀ (j : Nat) t, fn.params[j]? = some t → Tryz.pinned.checked.prog.wantsStandIn t = false := by
  obtain rfl : f = 4 := Option.some.inj ((show Tryz.prog.funcNamed "mailbag/mailbaglaw.Lists" = some 4 by kernel_rfl).symm.trans hf) |>.symm
  obtain rfl : fn = Tryz.f4 := (Option.some.inj (Tryz.func4.symm.trans hfn)).symm
  exact ⟨fact_looks, fun j t ht => by
    rw [Tryz.params4] at ht
    have hm : t ∈ [22] := by simpa using Array.mem_of_getElem? ht
    have hall : ([22].all fun u => !Tryz.prog.wantsStandIn u) = true := by kernel_rfl
    exact (show Tryz.prog.wantsStandIn t = false by simpa using List.all_eq_true.1 hall t hm)⟩

theorem lists_card : Rows.ListsUptoCardSaid :=
  Claim7.holds_tied_plain_at .later [] _ _ _ _
    lists_holds (fun _ h => by cases h) (by kernel_rfl) (fun _ h => by cases h) listsUpto_row_tie rfl ⟨rfl, rfl⟩ (by kernel_rfl) rfl
    lists_stand (goesBy_gen funcs_go rfl)

end Go.Proofs.YtldgiecjnmkajaaGreatDoor
