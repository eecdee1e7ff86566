/-
  DERIVED. GIVEN WITH THE SEED: THE CARDS: each row of YtbeahecjbokjjaaGreatDoorRows.lean that lists a variable, with what it lists TIED to the program's text (the seventh form; the later family's looks); each row that meets fmt, with fmt's text TOLD by the authors' own Lean function (tested against real Go, not proved from fmt's source: count such statements apart). THE CARD IS WHAT COUNTS. Prove the row's statement (the work); the ties are given (YtbeahecjbokjjaaGreatDoorTie.lean); close each card by the builder's one call (the guide's Derived/Test/ToyasCard.lean, 'card_holds'). Laid BY PROGRAM, IN A SANDBOX (cutbox-door.mjs). By AI agents, Wed Nov 11 2026. No macro, syntax, notation, axiom, sorry.
-/
import Derived.Test.YtbeahecjbokjjaaGreatDoorRows
import GoSem.ClaimSeven
namespace Go.Proofs.YtbeahecjbokjjaaGreatDoor
namespace Rows

/-- THE TIED CARD OF 'mailbagkeep.Folds'. -/
def foldsCard : Claim7 := { stood := { row := foldsRow, standIns := [], harness := (true, "f6eba3088e4f920f700e790259cb25a10e87b5a74d4969e16cd6cc9e2a240d78"), looks := true }, kinds := [], alts := [], laidByText := true, laidKinds := [.data, .data, .data, .data, .sentinel, .sentinel, .data, .pinned], laidTests := true, laidLooks := .later }
def FoldsCardSaid : Prop := Claim7.holds Tryz.pinned (.plain (OpenSpec.ofChange foldsSpec)) foldsCard

/-- THE SECOND FORM's CARD OF 'mailbagkeep.Folds'. -/
def foldsUptoCard : Claim7 := { stood := { row := foldsUptoRow, standIns := [], harness := (true, "f6eba3088e4f920f700e790259cb25a10e87b5a74d4969e16cd6cc9e2a240d78"), looks := true }, kinds := [], alts := [], laidByText := true, laidKinds := [.data, .data, .data, .data, .sentinel, .sentinel, .data, .pinned], laidTests := true, laidLooks := .later }
def FoldsUptoCardSaid : Prop := Claim7.holds Tryz.pinned (.plain (OpenSpec.upto foldsSpec)) foldsUptoCard
end Rows
end Go.Proofs.YtbeahecjbokjjaaGreatDoor
