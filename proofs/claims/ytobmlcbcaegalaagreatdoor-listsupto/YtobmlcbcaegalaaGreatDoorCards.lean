/-
  DERIVED. GIVEN WITH THE SEED: THE CARDS: each row of YtobmlcbcaegalaaGreatDoorRows.lean that lists a variable, with what it lists TIED to the program's text (the seventh form; the later family's looks); each row that meets fmt, with fmt's text TOLD by the authors' own Lean function (tested against real Go, not proved from fmt's source: count such statements apart). THE CARD IS WHAT COUNTS. Prove the row's statement (the work); the ties are given (YtobmlcbcaegalaaGreatDoorTie.lean); close each card by the builder's one call (the guide's Derived/Test/ToyasCard.lean, 'card_holds'). Laid BY PROGRAM, IN A SANDBOX (cutbox-door.mjs). By AI agents, Wed Nov 11 2026. No macro, syntax, notation, axiom, sorry.
-/
import Derived.Test.YtobmlcbcaegalaaGreatDoorRows
import GoSem.ClaimSeven
namespace Go.Proofs.YtobmlcbcaegalaaGreatDoor
namespace Rows

/-- THE TIED CARD OF 'mailbaglaw.Codes'. -/
def codesCard : Claim7 := { stood := { row := codesRow, standIns := [], harness := (true, "156b6eaa9668589e0bbba7658260d71f098bdcf2dfc9c45b67d750efae86a2c0"), looks := true }, kinds := [], alts := [], laidByText := true, laidKinds := [.data, .data, .data, .data, .sentinel, .sentinel, .data, .pinned], laidTests := true, laidLooks := .later }
def CodesCardSaid : Prop := Claim7.holds Tryz.pinned (.plain (OpenSpec.ofChange codesSpec)) codesCard

/-- THE TIED CARD OF 'mailbaglaw.Lists'. -/
def listsCard : Claim7 := { stood := { row := listsRow, standIns := [], harness := (true, "156b6eaa9668589e0bbba7658260d71f098bdcf2dfc9c45b67d750efae86a2c0"), looks := true }, kinds := [], alts := [], laidByText := true, laidKinds := [.data, .data, .data, .data, .sentinel, .sentinel, .data, .pinned], laidTests := true, laidLooks := .later }
def ListsCardSaid : Prop := Claim7.holds Tryz.pinned (.plain (OpenSpec.ofChange listsSpec)) listsCard

/-- THE TIED CARD OF 'mailbaglaw.Opens'. -/
def opensCard : Claim7 := { stood := { row := opensRow, standIns := [], harness := (true, "156b6eaa9668589e0bbba7658260d71f098bdcf2dfc9c45b67d750efae86a2c0"), looks := true }, kinds := [], alts := [], laidByText := true, laidKinds := [.data, .data, .data, .data, .sentinel, .sentinel, .data, .pinned], laidTests := true, laidLooks := .later }
def OpensCardSaid : Prop := Claim7.holds Tryz.pinned (.plain (OpenSpec.ofChange opensSpec)) opensCard

/-- THE TIED CARD OF 'mailbagkeep.Sure'. -/
def sureCard : Claim7 := { stood := { row := sureRow, standIns := [], harness := (true, "156b6eaa9668589e0bbba7658260d71f098bdcf2dfc9c45b67d750efae86a2c0"), looks := true }, kinds := [], alts := [], laidByText := true, laidKinds := [.data, .data, .data, .data, .sentinel, .sentinel, .pinned], laidTests := true, laidLooks := .later }
def SureCardSaid : Prop := Claim7.holds Tryz.pinned (.plain (OpenSpec.ofChange sureSpec)) sureCard

/-- THE SECOND FORM's CARD OF 'mailbaglaw.Codes'. -/
def codesUptoCard : Claim7 := { stood := { row := codesUptoRow, standIns := [], harness := (true, "156b6eaa9668589e0bbba7658260d71f098bdcf2dfc9c45b67d750efae86a2c0"), looks := true }, kinds := [], alts := [], laidByText := true, laidKinds := [.data, .data, .data, .data, .sentinel, .sentinel, .data, .pinned], laidTests := true, laidLooks := .later }
def CodesUptoCardSaid : Prop := Claim7.holds Tryz.pinned (.plain (OpenSpec.upto codesSpec)) codesUptoCard

/-- THE SECOND FORM's CARD OF 'mailbaglaw.Lists'. -/
def listsUptoCard : Claim7 := { stood := { row := listsUptoRow, standIns := [], harness := (true, "156b6eaa9668589e0bbba7658260d71f098bdcf2dfc9c45b67d750efae86a2c0"), looks := true }, kinds := [], alts := [], laidByText := true, laidKinds := [.data, .data, .data, .data, .sentinel, .sentinel, .data, .pinned], laidTests := true, laidLooks := .later }
def ListsUptoCardSaid : Prop := Claim7.holds Tryz.pinned (.plain (OpenSpec.upto listsSpec)) listsUptoCard

/-- THE SECOND FORM's CARD OF 'mailbaglaw.Opens'. -/
def opensUptoCard : Claim7 := { stood := { row := opensUptoRow, standIns := [], harness := (true, "156b6eaa9668589e0bbba7658260d71f098bdcf2dfc9c45b67d750efae86a2c0"), looks := true }, kinds := [], alts := [], laidByText := true, laidKinds := [.data, .data, .data, .data, .sentinel, .sentinel, .data, .pinned], laidTests := true, laidLooks := .later }
def OpensUptoCardSaid : Prop := Claim7.holds Tryz.pinned (.plain (OpenSpec.upto opensSpec)) opensUptoCard

/-- THE SECOND FORM's CARD OF 'mailbagkeep.Sure'. -/
def sureUptoCard : Claim7 := { stood := { row := sureUptoRow, standIns := [], harness := (true, "156b6eaa9668589e0bbba7658260d71f098bdcf2dfc9c45b67d750efae86a2c0"), looks := true }, kinds := [], alts := [], laidByText := true, laidKinds := [.data, .data, .data, .data, .sentinel, .sentinel, .pinned], laidTests := true, laidLooks := .later }
def SureUptoCardSaid : Prop := Claim7.holds Tryz.pinned (.plain (OpenSpec.upto sureSpec)) sureUptoCard
end Rows
end Go.Proofs.YtobmlcbcaegalaaGreatDoor
