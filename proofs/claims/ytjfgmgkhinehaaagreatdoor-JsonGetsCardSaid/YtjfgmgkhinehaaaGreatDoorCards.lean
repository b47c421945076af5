/-
  DERIVED. GIVEN WITH THE SEED: THE CARDS: each row of YtjfgmgkhinehaaaGreatDoorRows.lean that lists a variable, with what it lists TIED to the program's text (the seventh form; the later family's looks); each row that meets fmt, with fmt's text TOLD by the authors' own Lean function (tested against real Go, not proved from fmt's source: count such statements apart). THE CARD IS WHAT COUNTS. Prove the row's statement (the work); the ties are given (YtjfgmgkhinehaaaGreatDoorTie.lean); close each card by the builder's one call (the guide's Derived/Test/ToyasCard.lean, 'card_holds'). Laid BY PROGRAM, IN A SANDBOX (cutbox-door.mjs). By AI agents, Wed Nov 11 2026. No macro, syntax, notation, axiom, sorry.
-/
import Derived.Test.YtjfgmgkhinehaaaGreatDoorRows
import GoSem.ClaimSeven
namespace Go.Proofs.YtjfgmgkhinehaaaGreatDoor
namespace Rows

/-- THE TIED CARD OF 'warrantlaw05.JsonGets'. -/
def jsonGetsCard : Claim7 := { stood := { row := jsonGetsRow, standIns := [], harness := (true, "85f5bd0213bd62a7566f631b9002d18a805f0be3ad3be6068e78d71207097417"), looks := true }, kinds := [], alts := [], laidByText := true, laidKinds := [.handle, .data], laidTests := true, laidLooks := .later }
def JsonGetsCardSaid : Prop := Claim7.holds Tryz.pinned (.plain (OpenSpec.ofChange jsonGetsSpec)) jsonGetsCard

/-- THE TIED CARD OF 'warrantlaw09.ClaimPrints'. -/
def claimPrintsCard : Claim7 := { stood := { row := claimPrintsRow, standIns := [], harness := (true, "85f5bd0213bd62a7566f631b9002d18a805f0be3ad3be6068e78d71207097417"), looks := true }, kinds := [], alts := [], laidByText := true, laidKinds := [.handle, .data], laidTests := true, laidLooks := .later }
def ClaimPrintsCardSaid : Prop := Claim7.holds Tryz.pinned (.plain (OpenSpec.ofChange claimPrintsSpec)) claimPrintsCard

/-- THE TIED CARD OF 'warrantlaw09.ClaimReads'. -/
def claimReadsCard : Claim7 := { stood := { row := claimReadsRow, standIns := [], harness := (true, "85f5bd0213bd62a7566f631b9002d18a805f0be3ad3be6068e78d71207097417"), looks := true }, kinds := [], alts := [], laidByText := true, laidKinds := [.handle, .data], laidTests := true, laidLooks := .later }
def ClaimReadsCardSaid : Prop := Claim7.holds Tryz.pinned (.plain (OpenSpec.ofChange claimReadsSpec)) claimReadsCard

/-- THE TIED CARD OF 'warrantlaw09.ClaimPushed'. -/
def claimPushedCard : Claim7 := { stood := { row := claimPushedRow, standIns := [], harness := (true, "85f5bd0213bd62a7566f631b9002d18a805f0be3ad3be6068e78d71207097417"), looks := true }, kinds := [], alts := [], laidByText := true, laidKinds := [.handle, .data], laidTests := true, laidLooks := .later }
def ClaimPushedCardSaid : Prop := Claim7.holds Tryz.pinned (.plain (OpenSpec.ofChange claimPushedSpec)) claimPushedCard

/-- THE TIED CARD OF 'warrantlaw09.ClaimFields'. -/
def claimFieldsCard : Claim7 := { stood := { row := claimFieldsRow, standIns := [], harness := (true, "85f5bd0213bd62a7566f631b9002d18a805f0be3ad3be6068e78d71207097417"), looks := true }, kinds := [], alts := [], laidByText := true, laidKinds := [.handle, .data], laidTests := true, laidLooks := .later }
def ClaimFieldsCardSaid : Prop := Claim7.holds Tryz.pinned (.plain (OpenSpec.ofChange claimFieldsSpec)) claimFieldsCard

/-- THE TIED CARD OF 'warrantlaw09.ClaimBack'. -/
def claimBackCard : Claim7 := { stood := { row := claimBackRow, standIns := [], harness := (true, "85f5bd0213bd62a7566f631b9002d18a805f0be3ad3be6068e78d71207097417"), looks := true }, kinds := [], alts := [], laidByText := true, laidKinds := [.handle, .data], laidTests := true, laidLooks := .later }
def ClaimBackCardSaid : Prop := Claim7.holds Tryz.pinned (.plain (OpenSpec.ofChange claimBackSpec)) claimBackCard

/-- THE SECOND FORM's CARD OF 'warrantlaw05.JsonGets'. -/
def jsonGetsUptoCard : Claim7 := { stood := { row := jsonGetsUptoRow, standIns := [], harness := (true, "85f5bd0213bd62a7566f631b9002d18a805f0be3ad3be6068e78d71207097417"), looks := true }, kinds := [], alts := [], laidByText := true, laidKinds := [.handle, .data], laidTests := true, laidLooks := .later }
def JsonGetsUptoCardSaid : Prop := Claim7.holds Tryz.pinned (.plain (OpenSpec.upto jsonGetsSpec)) jsonGetsUptoCard

/-- THE SECOND FORM's CARD OF 'warrantlaw09.ClaimPrints'. -/
def claimPrintsUptoCard : Claim7 := { stood := { row := claimPrintsUptoRow, standIns := [], harness := (true, "85f5bd0213bd62a7566f631b9002d18a805f0be3ad3be6068e78d71207097417"), looks := true }, kinds := [], alts := [], laidByText := true, laidKinds := [.handle, .data], laidTests := true, laidLooks := .later }
def ClaimPrintsUptoCardSaid : Prop := Claim7.holds Tryz.pinned (.plain (OpenSpec.upto claimPrintsSpec)) claimPrintsUptoCard

/-- THE SECOND FORM's CARD OF 'warrantlaw09.ClaimReads'. -/
def claimReadsUptoCard : Claim7 := { stood := { row := claimReadsUptoRow, standIns := [], harness := (true, "85f5bd0213bd62a7566f631b9002d18a805f0be3ad3be6068e78d71207097417"), looks := true }, kinds := [], alts := [], laidByText := true, laidKinds := [.handle, .data], laidTests := true, laidLooks := .later }
def ClaimReadsUptoCardSaid : Prop := Claim7.holds Tryz.pinned (.plain (OpenSpec.upto claimReadsSpec)) claimReadsUptoCard

/-- THE SECOND FORM's CARD OF 'warrantlaw09.ClaimPushed'. -/
def claimPushedUptoCard : Claim7 := { stood := { row := claimPushedUptoRow, standIns := [], harness := (true, "85f5bd0213bd62a7566f631b9002d18a805f0be3ad3be6068e78d71207097417"), looks := true }, kinds := [], alts := [], laidByText := true, laidKinds := [.handle, .data], laidTests := true, laidLooks := .later }
def ClaimPushedUptoCardSaid : Prop := Claim7.holds Tryz.pinned (.plain (OpenSpec.upto claimPushedSpec)) claimPushedUptoCard

/-- THE SECOND FORM's CARD OF 'warrantlaw09.ClaimFields'. -/
def claimFieldsUptoCard : Claim7 := { stood := { row := claimFieldsUptoRow, standIns := [], harness := (true, "85f5bd0213bd62a7566f631b9002d18a805f0be3ad3be6068e78d71207097417"), looks := true }, kinds := [], alts := [], laidByText := true, laidKinds := [.handle, .data], laidTests := true, laidLooks := .later }
def ClaimFieldsUptoCardSaid : Prop := Claim7.holds Tryz.pinned (.plain (OpenSpec.upto claimFieldsSpec)) claimFieldsUptoCard

/-- THE SECOND FORM's CARD OF 'warrantlaw09.ClaimBack'. -/
def claimBackUptoCard : Claim7 := { stood := { row := claimBackUptoRow, standIns := [], harness := (true, "85f5bd0213bd62a7566f631b9002d18a805f0be3ad3be6068e78d71207097417"), looks := true }, kinds := [], alts := [], laidByText := true, laidKinds := [.handle, .data], laidTests := true, laidLooks := .later }
def ClaimBackUptoCardSaid : Prop := Claim7.holds Tryz.pinned (.plain (OpenSpec.upto claimBackSpec)) claimBackUptoCard
end Rows
end Go.Proofs.YtjfgmgkhinehaaaGreatDoor
