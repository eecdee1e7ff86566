/-
  DERIVED. GIVEN WITH THE SEED: THE CARDS: each row of YtldgiecjnmkajaaDoorRows.lean that lists a variable, with what it lists TIED to the program's text (the seventh form; the later family's looks); each row that meets fmt, with fmt's text TOLD by the authors' own Lean function (tested against real Go, not proved from fmt's source: count such statements apart). THE CARD IS WHAT COUNTS. Prove the row's statement (the work); the ties are given (YtldgiecjnmkajaaDoorTie.lean); close each card by the builder's one call (the guide's Derived/Test/ToyasCard.lean, 'card_holds'). Laid BY PROGRAM, IN A SANDBOX (cutbox-door.mjs). By AI agents, Wed Nov 11 2026. No macro, syntax, notation, axiom, sorry.
-/
import Derived.Test.YtldgiecjnmkajaaDoorRows
import GoSem.ClaimSeven
namespace Go.Proofs.YtldgiecjnmkajaaDoor
namespace Rows

/-- THE TIED CARD OF 'mailbagkeep.Named'. -/
def namedCard : Claim7 := { stood := { row := namedRow, standIns := [], harness := (true, "67544fa47537d22c4cec8fa171d1689ac09c9279cd7ac75fbfe5f85eb30eb67d"), looks := true }, kinds := [], alts := [], laidByText := true, laidKinds := [.data, .data, .data, .data, .sentinel, .sentinel, .pinned], laidTests := true, laidLooks := .later }
def NamedCardSaid : Prop := Claim7.holds Tryd.pinned (.plain (OpenSpec.ofChange namedSpec)) namedCard

/-- THE TIED CARD OF 'mailbagkeep.Listed'. -/
def listedCard : Claim7 := { stood := { row := listedRow, standIns := [], harness := (true, "67544fa47537d22c4cec8fa171d1689ac09c9279cd7ac75fbfe5f85eb30eb67d"), looks := true }, kinds := [], alts := [], laidByText := true, laidKinds := [.data, .data, .data, .data, .sentinel, .sentinel, .pinned], laidTests := true, laidLooks := .later }
def ListedCardSaid : Prop := Claim7.holds Tryd.pinned (.plain (OpenSpec.ofChange listedSpec)) listedCard

/-- THE SECOND FORM's CARD OF 'mailbagkeep.Named'. -/
def namedUptoCard : Claim7 := { stood := { row := namedUptoRow, standIns := [], harness := (true, "67544fa47537d22c4cec8fa171d1689ac09c9279cd7ac75fbfe5f85eb30eb67d"), looks := true }, kinds := [], alts := [], laidByText := true, laidKinds := [.data, .data, .data, .data, .sentinel, .sentinel, .pinned], laidTests := true, laidLooks := .later }
def NamedUptoCardSaid : Prop := Claim7.holds Tryd.pinned (.plain (OpenSpec.upto namedSpec)) namedUptoCard

/-- THE SECOND FORM's CARD OF 'mailbagkeep.Listed'. -/
def listedUptoCard : Claim7 := { stood := { row := listedUptoRow, standIns := [], harness := (true, "67544fa47537d22c4cec8fa171d1689ac09c9279cd7ac75fbfe5f85eb30eb67d"), looks := true }, kinds := [], alts := [], laidByText := true, laidKinds := [.data, .data, .data, .data, .sentinel, .sentinel, .pinned], laidTests := true, laidLooks := .later }
def ListedUptoCardSaid : Prop := Claim7.holds Tryd.pinned (.plain (OpenSpec.upto listedSpec)) listedUptoCard
end Rows
end Go.Proofs.YtldgiecjnmkajaaDoor
