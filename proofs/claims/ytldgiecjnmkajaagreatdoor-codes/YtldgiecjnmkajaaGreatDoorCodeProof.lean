/-
  PROVED HERE: mailbaglaw.Codes answers true for every script, and leaves it as it was, where the listed package-level variables of Go's library and of the document's answer hold what the program's text lays there (the tied card).
-/
import Derived.Test.YtldgiecjnmkajaaGreatDoorCodeHolds
import Derived.Test.YtldgiecjnmkajaaGreatDoorCodeFactE
import Derived.Test.YtldgiecjnmkajaaGreatDoorGoes
import Derived.Test.YtldgiecjnmkajaaGreatDoorTie
import Derived.Test.YtldgiecjnmkajaaGreatDoorCards
import Derived.ProofKit
import Derived.Lib.SmallJoins
import Derived.ChangeMaps5
import Derived.SevenTiedAt
namespace Go.Proofs.YtldgiecjnmkajaaGreatDoor
open Go.ChangeShapes Go.WideShapes Go.ChangeAt Go.RowKit Go.Joins Go.ChangeMaps

theorem codes_stand (f : FuncId) (fn : Func) (hf : Tryz.pinned.checked.prog.funcNamed Rows.codesRow.func = some f) (hfn : Tryz.pinned.checked.prog.funcs[f]? = some fn) : true = Tryz.pinned.checked.prog.looks [] ∧ ∀ (j : Nat) t, fn.params[j]? = some t → Tryz.pinned.checked.prog.wantsStandIn t = false := by
  obtain rfl : f = 3 := Option.some.inj ((show Tryz.prog.funcNamed "mailbag/mailbaglaw.Codes" = some 3 by kernel_rfl).symm.trans hf) |>.symm
  obtain rfl : fn = Tryz.f3 := (Option.some.inj (Tryz.func3.symm.trans hfn)).symm
  exact ⟨fact_looks, fun j t ht => by
    rw [Tryz.params3] at ht
    have hm : t ∈ [22] := by simpa using Array.mem_of_getElem? ht
    have hall : ([22].all fun u => !Tryz.prog.wantsStandIn u) = true := by kernel_rfl
    exact (show Tryz.prog.wantsStandIn t = false by simpa using List.all_eq_true.1 hall t hm)⟩

theorem codes_card : Rows.CodesCardSaid :=
  Claim7.holds_tied_plain_at .later [] [.data, .data, .data, .data, .sentinel, .sentinel, .data, .data, .pinned] true (true, "7187cef6363731dfe310e42d585c0c010cd5552897d08b1b2c3f8ed67b36ead4") true
    codes_holds (fun _ h => by cases h) (by kernel_rfl) (fun _ h => by cases h) codes_row_tie rfl ⟨rfl, rfl⟩ (by kernel_rfl) rfl
    codes_stand (goesBy_gen funcs_go rfl)

end Go.Proofs.YtldgiecjnmkajaaGreatDoor
