/-
  DERIVED. GIVEN WITH THE SEED: THE CARDS: each row of YtlbhikafmckcfaaGreatDoorRows.lean that lists a variable, with what it lists TIED to the program's text (the seventh form; the later family's looks); each row that meets fmt, with fmt's text TOLD by the authors' own Lean function (tested against real Go, not proved from fmt's source: count such statements apart). THE CARD IS WHAT COUNTS. Prove the row's statement (the work); the ties are given (YtlbhikafmckcfaaGreatDoorTie.lean); close each card by the builder's one call (the guide's Derived/Test/ToyasCard.lean, 'card_holds'). Laid BY PROGRAM, IN A SANDBOX (cutbox-door.mjs). By AI agents, Wed Nov 11 2026. No macro, syntax, notation, axiom, sorry.
-/
import Derived.Test.YtlbhikafmckcfaaGreatDoorRows
import GoSem.ClaimSeven
namespace Go.Proofs.YtlbhikafmckcfaaGreatDoor
namespace Rows

/-- THE TIED CARD OF 'mailbagkeep.Chunks'. -/
def chunksCard : Claim7 := { stood := { row := chunksRow, standIns := [], harness := (true, "7cdc604061778d6cdf25809e2f5e505d715fa42384eaa814811d58770acf5db5"), looks := true }, kinds := [], alts := [], laidByText := true, laidKinds := [.data, .data, .data, .data, .sentinel, .sentinel, .data, .pinned], laidTests := true, laidLooks := .later }
def ChunksCardSaid : Prop := Claim7.holds Tryz.pinned (.plain (OpenSpec.ofChange chunksSpec)) chunksCard

/-- THE SECOND FORM's CARD OF 'mailbagkeep.Chunks'. -/
def chunksUptoCard : Claim7 := { stood := { row := chunksUptoRow, standIns := [], harness := (true, "7cdc604061778d6cdf25809e2f5e505d715fa42384eaa814811d58770acf5db5"), looks := true }, kinds := [], alts := [], laidByText := true, laidKinds := [.data, .data, .data, .data, .sentinel, .sentinel, .data, .pinned], laidTests := true, laidLooks := .later }
def ChunksUptoCardSaid : Prop := Claim7.holds Tryz.pinned (.plain (OpenSpec.upto chunksSpec)) chunksUptoCard
end Rows
end Go.Proofs.YtlbhikafmckcfaaGreatDoor
