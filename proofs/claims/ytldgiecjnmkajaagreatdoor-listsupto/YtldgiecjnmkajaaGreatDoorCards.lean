/-
  DERIVED. GIVEN WITH THE SEED: THE CARDS: each row of YtldgiecjnmkajaaGreatDoorRows.lean that lists a variable, with what it lists TIED to the program's text (the seventh form; the later family's looks); each row that meets fmt, with fmt's text TOLD by the authors' own Lean function (tested against real Go, not proved from fmt's source: count such statements apart). THE CARD IS WHAT COUNTS. Prove the row's statement (the work); the ties are given (YtldgiecjnmkajaaGreatDoorTie.lean); close each card by the builder's one call (the guide's Derived/Test/ToyasCard.lean, 'card_holds'). Laid BY PROGRAM, IN A SANDBOX (cutbox-door.mjs). By AI agents, Wed Nov 11 2026. No macro, syntax, notation, axiom, sorry.
-/
import Derived.Test.YtldgiecjnmkajaaGreatDoorRows
import GoSem.ClaimSeven
namespace Go.Proofs.YtldgiecjnmkajaaGreatDoor
namespace Rows

/-- THE TIED CARD OF 'mailbaglaw.Codes'. -/
def codesCard : Claim7 := { stood := { row := codesRow, standIns := [], harness := (true, "7187cef6363731dfe310e42d585c0c010cd5552897d08b1b2c3f8ed67b36ead4"), looks := true }, kinds := [], alts := [], laidByText := true, laidKinds := [.data, .data, .data, .data, .sentinel, .sentinel, .data, .data, .pinned], laidTests := true, laidLooks := .later }
def CodesCardSaid : Prop := Claim7.holds Tryz.pinned (.plain (OpenSpec.ofChange codesSpec)) codesCard

/-- THE TIED CARD OF 'mailbaglaw.Lists'. -/
def listsCard : Claim7 := { stood := { row := listsRow, standIns := [], harness := (true, "7187cef6363731dfe310e42d585c0c010cd5552897d08b1b2c3f8ed67b36ead4"), looks := true }, kinds := [], alts := [], laidByText := true, laidKinds := [.data, .data, .data, .data, .sentinel, .sentinel, .data, .data, .pinned], laidTests := true, laidLooks := .later }
def ListsCardSaid : Prop := Claim7.holds Tryz.pinned (.plain (OpenSpec.ofChange listsSpec)) listsCard

/-- THE TIED CARD OF 'mailbaglaw.Opens'. -/
def opensCard : Claim7 := { stood := { row := opensRow, standIns := [], harness := (true, "7187cef6363731dfe310e42d585c0c010cd5552897d08b1b2c3f8ed67b36ead4"), looks := true }, kinds := [], alts := [], laidByText := true, laidKinds := [.data, .data, .data, .data, .sentinel, .sentinel, .data, .data, .pinned], laidTests := true, laidLooks := .later }
def OpensCardSaid : Prop := Claim7.holds Tryz.pinned (.plain (OpenSpec.ofChange opensSpec)) opensCard

/-- THE TIED CARD OF 'mailbagkeep.Sure'. -/
def sureCard : Claim7 := { stood := { row := sureRow, standIns := [], harness := (true, "7187cef6363731dfe310e42d585c0c010cd5552897d08b1b2c3f8ed67b36ead4"), looks := true }, kinds := [], alts := [], laidByText := true, laidKinds := [.data, .data, .data, .data, .sentinel, .sentinel, .pinned], laidTests := true, laidLooks := .later }
def SureCardSaid : Prop := Claim7.holds Tryz.pinned (.plain (OpenSpec.ofChange sureSpec)) sureCard

/-- THE TIED CARD OF 'mailbaglaw.Single'. -/
def singleCard : Claim7 := { stood := { row := singleRow, standIns := [], harness := (true, "7187cef6363731dfe310e42d585c0c010cd5552897d08b1b2c3f8ed67b36ead4"), looks := true }, kinds := [], alts := [], laidByText := true, laidKinds := [.data, .data, .data, .data, .sentinel, .sentinel, .data, .data, .pinned], laidTests := true, laidLooks := .later }
def SingleCardSaid : Prop := Claim7.holds Tryz.pinned (.plain (OpenSpec.ofChange singleSpec)) singleCard

/-- THE TIED CARD OF 'mailbagkeep.Kept'. -/
def keptCard : Claim7 := { stood := { row := keptRow, standIns := [], harness := (true, "7187cef6363731dfe310e42d585c0c010cd5552897d08b1b2c3f8ed67b36ead4"), looks := true }, kinds := [], alts := [], laidByText := true, laidKinds := [.data, .data, .data, .data, .sentinel, .sentinel, .data, .pinned], laidTests := true, laidLooks := .later }
def KeptCardSaid : Prop := Claim7.holds Tryz.pinned (.plain (OpenSpec.ofChange keptSpec)) keptCard

/-- THE TIED CARD OF 'mailbagkeep.Chunks'. -/
def chunksCard : Claim7 := { stood := { row := chunksRow, standIns := [], harness := (true, "7187cef6363731dfe310e42d585c0c010cd5552897d08b1b2c3f8ed67b36ead4"), looks := true }, kinds := [], alts := [], laidByText := true, laidKinds := [.data, .data, .data, .data, .sentinel, .sentinel, .data, .pinned], laidTests := true, laidLooks := .later }
def ChunksCardSaid : Prop := Claim7.holds Tryz.pinned (.plain (OpenSpec.ofChange chunksSpec)) chunksCard

/-- THE TIED CARD OF 'mailbaglaw.Serves'. -/
def servesCard : Claim7 := { stood := { row := servesRow, standIns := [], harness := (true, "7187cef6363731dfe310e42d585c0c010cd5552897d08b1b2c3f8ed67b36ead4"), looks := true }, kinds := [], alts := [], laidByText := true, laidKinds := [.data, .data, .data, .data, .sentinel, .sentinel, .data, .data, .pinned], laidTests := true, laidLooks := .later }
def ServesCardSaid : Prop := Claim7.holds Tryz.pinned (.plain (OpenSpec.ofChange servesSpec)) servesCard

/-- THE TIED CARD OF 'mailbagkeep.Folds'. -/
def foldsCard : Claim7 := { stood := { row := foldsRow, standIns := [], harness := (true, "7187cef6363731dfe310e42d585c0c010cd5552897d08b1b2c3f8ed67b36ead4"), looks := true }, kinds := [], alts := [], laidByText := true, laidKinds := [.data, .data, .data, .data, .sentinel, .sentinel, .data, .pinned], laidTests := true, laidLooks := .later }
def FoldsCardSaid : Prop := Claim7.holds Tryz.pinned (.plain (OpenSpec.ofChange foldsSpec)) foldsCard

/-- THE TIED CARD OF 'mailbaglaw.Safe'. -/
def safeCard : Claim7 := { stood := { row := safeRow, standIns := [], harness := (true, "7187cef6363731dfe310e42d585c0c010cd5552897d08b1b2c3f8ed67b36ead4"), looks := true }, kinds := [], alts := [], laidByText := true, laidKinds := [.data, .data, .data, .data, .sentinel, .sentinel, .data, .data, .pinned], laidTests := true, laidLooks := .later }
def SafeCardSaid : Prop := Claim7.holds Tryz.pinned (.plain (OpenSpec.ofChange safeSpec)) safeCard

/-- THE SECOND FORM's CARD OF 'mailbaglaw.Codes'. -/
def codesUptoCard : Claim7 := { stood := { row := codesUptoRow, standIns := [], harness := (true, "7187cef6363731dfe310e42d585c0c010cd5552897d08b1b2c3f8ed67b36ead4"), looks := true }, kinds := [], alts := [], laidByText := true, laidKinds := [.data, .data, .data, .data, .sentinel, .sentinel, .data, .data, .pinned], laidTests := true, laidLooks := .later }
def CodesUptoCardSaid : Prop := Claim7.holds Tryz.pinned (.plain (OpenSpec.upto codesSpec)) codesUptoCard

/-- THE SECOND FORM's CARD OF 'mailbaglaw.Lists'. -/
def listsUptoCard : Claim7 := { stood := { row := listsUptoRow, standIns := [], harness := (true, "7187cef6363731dfe310e42d585c0c010cd5552897d08b1b2c3f8ed67b36ead4"), looks := true }, kinds := [], alts := [], laidByText := true, laidKinds := [.data, .data, .data, .data, .sentinel, .sentinel, .data, .data, .pinned], laidTests := true, laidLooks := .later }
def ListsUptoCardSaid : Prop := Claim7.holds Tryz.pinned (.plain (OpenSpec.upto listsSpec)) listsUptoCard

/-- THE SECOND FORM's CARD OF 'mailbaglaw.Opens'. -/
def opensUptoCard : Claim7 := { stood := { row := opensUptoRow, standIns := [], harness := (true, "7187cef6363731dfe310e42d585c0c010cd5552897d08b1b2c3f8ed67b36ead4"), looks := true }, kinds := [], alts := [], laidByText := true, laidKinds := [.data, .data, .data, .data, .sentinel, .sentinel, .data, .data, .pinned], laidTests := true, laidLooks := .later }
def OpensUptoCardSaid : Prop := Claim7.holds Tryz.pinned (.plain (OpenSpec.upto opensSpec)) opensUptoCard

/-- THE SECOND FORM's CARD OF 'mailbagkeep.Sure'. -/
def sureUptoCard : Claim7 := { stood := { row := sureUptoRow, standIns := [], harness := (true, "7187cef6363731dfe310e42d585c0c010cd5552897d08b1b2c3f8ed67b36ead4"), looks := true }, kinds := [], alts := [], laidByText := true, laidKinds := [.data, .data, .data, .data, .sentinel, .sentinel, .pinned], laidTests := true, laidLooks := .later }
def SureUptoCardSaid : Prop := Claim7.holds Tryz.pinned (.plain (OpenSpec.upto sureSpec)) sureUptoCard

/-- THE SECOND FORM's CARD OF 'mailbaglaw.Single'. -/
def singleUptoCard : Claim7 := { stood := { row := singleUptoRow, standIns := [], harness := (true, "7187cef6363731dfe310e42d585c0c010cd5552897d08b1b2c3f8ed67b36ead4"), looks := true }, kinds := [], alts := [], laidByText := true, laidKinds := [.data, .data, .data, .data, .sentinel, .sentinel, .data, .data, .pinned], laidTests := true, laidLooks := .later }
def SingleUptoCardSaid : Prop := Claim7.holds Tryz.pinned (.plain (OpenSpec.upto singleSpec)) singleUptoCard

/-- THE SECOND FORM's CARD OF 'mailbagkeep.Kept'. -/
def keptUptoCard : Claim7 := { stood := { row := keptUptoRow, standIns := [], harness := (true, "7187cef6363731dfe310e42d585c0c010cd5552897d08b1b2c3f8ed67b36ead4"), looks := true }, kinds := [], alts := [], laidByText := true, laidKinds := [.data, .data, .data, .data, .sentinel, .sentinel, .data, .pinned], laidTests := true, laidLooks := .later }
def KeptUptoCardSaid : Prop := Claim7.holds Tryz.pinned (.plain (OpenSpec.upto keptSpec)) keptUptoCard

/-- THE SECOND FORM's CARD OF 'mailbagkeep.Chunks'. -/
def chunksUptoCard : Claim7 := { stood := { row := chunksUptoRow, standIns := [], harness := (true, "7187cef6363731dfe310e42d585c0c010cd5552897d08b1b2c3f8ed67b36ead4"), looks := true }, kinds := [], alts := [], laidByText := true, laidKinds := [.data, .data, .data, .data, .sentinel, .sentinel, .data, .pinned], laidTests := true, laidLooks := .later }
def ChunksUptoCardSaid : Prop := Claim7.holds Tryz.pinned (.plain (OpenSpec.upto chunksSpec)) chunksUptoCard

/-- THE SECOND FORM's CARD OF 'mailbaglaw.Serves'. -/
def servesUptoCard : Claim7 := { stood := { row := servesUptoRow, standIns := [], harness := (true, "7187cef6363731dfe310e42d585c0c010cd5552897d08b1b2c3f8ed67b36ead4"), looks := true }, kinds := [], alts := [], laidByText := true, laidKinds := [.data, .data, .data, .data, .sentinel, .sentinel, .data, .data, .pinned], laidTests := true, laidLooks := .later }
def ServesUptoCardSaid : Prop := Claim7.holds Tryz.pinned (.plain (OpenSpec.upto servesSpec)) servesUptoCard

/-- THE SECOND FORM's CARD OF 'mailbagkeep.Folds'. -/
def foldsUptoCard : Claim7 := { stood := { row := foldsUptoRow, standIns := [], harness := (true, "7187cef6363731dfe310e42d585c0c010cd5552897d08b1b2c3f8ed67b36ead4"), looks := true }, kinds := [], alts := [], laidByText := true, laidKinds := [.data, .data, .data, .data, .sentinel, .sentinel, .data, .pinned], laidTests := true, laidLooks := .later }
def FoldsUptoCardSaid : Prop := Claim7.holds Tryz.pinned (.plain (OpenSpec.upto foldsSpec)) foldsUptoCard

/-- THE SECOND FORM's CARD OF 'mailbaglaw.Safe'. -/
def safeUptoCard : Claim7 := { stood := { row := safeUptoRow, standIns := [], harness := (true, "7187cef6363731dfe310e42d585c0c010cd5552897d08b1b2c3f8ed67b36ead4"), looks := true }, kinds := [], alts := [], laidByText := true, laidKinds := [.data, .data, .data, .data, .sentinel, .sentinel, .data, .data, .pinned], laidTests := true, laidLooks := .later }
def SafeUptoCardSaid : Prop := Claim7.holds Tryz.pinned (.plain (OpenSpec.upto safeSpec)) safeUptoCard
end Rows
end Go.Proofs.YtldgiecjnmkajaaGreatDoor
