/-
  DERIVED. GIVEN WITH THE SEED: THE CARDS: each row of YtamglanahpcedaaGreatDoorRows.lean that lists a variable, with what it lists TIED to the program's text (the seventh form; the later family's looks); each row that meets fmt, with fmt's text TOLD by the authors' own Lean function (tested against real Go, not proved from fmt's source: count such statements apart). THE CARD IS WHAT COUNTS. Prove the row's statement (the work); the ties are given (YtamglanahpcedaaGreatDoorTie.lean); close each card by the builder's one call (the guide's Derived/Test/ToyasCard.lean, 'card_holds'). Laid BY PROGRAM, IN A SANDBOX (cutbox-door.mjs). By AI agents, Wed Nov 11 2026. No macro, syntax, notation, axiom, sorry.
-/
import Derived.Test.YtamglanahpcedaaGreatDoorRows
import GoSem.ClaimSeven
namespace Go.Proofs.YtamglanahpcedaaGreatDoor
namespace Rows

/-- THE TIED CARD OF 'mailbagkeep.Sure'. -/
def sureCard : Claim7 := { stood := { row := sureRow, standIns := [], harness := (true, "1f7de872e2226b4ce6fc43e498bd9fe1b2824f82c0c21e6aff8d984578ca2c7c"), looks := true }, kinds := [], alts := [], laidByText := true, laidKinds := [.data, .data, .data, .data, .sentinel, .sentinel, .pinned], laidTests := true, laidLooks := .later }
def SureCardSaid : Prop := Claim7.holds Tryz.pinned (.plain (OpenSpec.ofChange sureSpec)) sureCard

/-- THE SECOND FORM's CARD OF 'mailbagkeep.Sure'. -/
def sureUptoCard : Claim7 := { stood := { row := sureUptoRow, standIns := [], harness := (true, "1f7de872e2226b4ce6fc43e498bd9fe1b2824f82c0c21e6aff8d984578ca2c7c"), looks := true }, kinds := [], alts := [], laidByText := true, laidKinds := [.data, .data, .data, .data, .sentinel, .sentinel, .pinned], laidTests := true, laidLooks := .later }
def SureUptoCardSaid : Prop := Claim7.holds Tryz.pinned (.plain (OpenSpec.upto sureSpec)) sureUptoCard
end Rows
end Go.Proofs.YtamglanahpcedaaGreatDoor
