/-
  DERIVED. GIVEN WITH THE SEED: THE CARDS: each row of YtlcljphbldjieaaGreatDoorRows.lean that lists a variable, with what it lists TIED to the program's text (the seventh form; the later family's looks); each row that meets fmt, with fmt's text TOLD by the authors' own Lean function (tested against real Go, not proved from fmt's source: count such statements apart). THE CARD IS WHAT COUNTS. Prove the row's statement (the work); the ties are given (YtlcljphbldjieaaGreatDoorTie.lean); close each card by the builder's one call (the guide's Derived/Test/ToyasCard.lean, 'card_holds'). Laid BY PROGRAM, IN A SANDBOX (cutbox-door.mjs). By AI agents, Wed Nov 11 2026. No macro, syntax, notation, axiom, sorry.
-/
import Derived.Test.YtlcljphbldjieaaGreatDoorRows
import GoSem.ClaimSeven
namespace Go.Proofs.YtlcljphbldjieaaGreatDoor
namespace Rows

/-- THE TIED CARD OF 'warrantlaw05.JsonParses'. -/
def jsonParsesCard : Claim7 := { stood := { row := jsonParsesRow, standIns := [], harness := (true, "c2482a8f96fadebd371f67262e3144d295c6410f44531907e324312f33857b8c"), looks := true }, kinds := [], alts := [], laidByText := true, laidKinds := [.handle, .data], laidTests := true, laidLooks := .later }
def JsonParsesCardSaid : Prop := Claim7.holds Tryz.pinned (.plain (OpenSpec.ofChange jsonParsesSpec)) jsonParsesCard

/-- THE TIED CARD OF 'warrantlaw05.JsonPrints'. -/
def jsonPrintsCard : Claim7 := { stood := { row := jsonPrintsRow, standIns := [], harness := (true, "c2482a8f96fadebd371f67262e3144d295c6410f44531907e324312f33857b8c"), looks := true }, kinds := [], alts := [], laidByText := true, laidKinds := [.handle, .data], laidTests := true, laidLooks := .later }
def JsonPrintsCardSaid : Prop := Claim7.holds Tryz.pinned (.plain (OpenSpec.ofChange jsonPrintsSpec)) jsonPrintsCard

/-- THE TIED CARD OF 'warrantlaw05.JsonBack'. -/
def jsonBackCard : Claim7 := { stood := { row := jsonBackRow, standIns := [], harness := (true, "c2482a8f96fadebd371f67262e3144d295c6410f44531907e324312f33857b8c"), looks := true }, kinds := [], alts := [], laidByText := true, laidKinds := [.handle, .data], laidTests := true, laidLooks := .later }
def JsonBackCardSaid : Prop := Claim7.holds Tryz.pinned (.plain (OpenSpec.ofChange jsonBackSpec)) jsonBackCard

/-- THE TIED CARD OF 'warrantlaw05.JsonBlanks'. -/
def jsonBlanksCard : Claim7 := { stood := { row := jsonBlanksRow, standIns := [], harness := (true, "c2482a8f96fadebd371f67262e3144d295c6410f44531907e324312f33857b8c"), looks := true }, kinds := [], alts := [], laidByText := true, laidKinds := [.handle, .data], laidTests := true, laidLooks := .later }
def JsonBlanksCardSaid : Prop := Claim7.holds Tryz.pinned (.plain (OpenSpec.ofChange jsonBlanksSpec)) jsonBlanksCard

/-- THE TIED CARD OF 'warrantlaw05.JsonGets'. -/
def jsonGetsCard : Claim7 := { stood := { row := jsonGetsRow, standIns := [], harness := (true, "c2482a8f96fadebd371f67262e3144d295c6410f44531907e324312f33857b8c"), looks := true }, kinds := [], alts := [], laidByText := true, laidKinds := [.handle, .data], laidTests := true, laidLooks := .later }
def JsonGetsCardSaid : Prop := Claim7.holds Tryz.pinned (.plain (OpenSpec.ofChange jsonGetsSpec)) jsonGetsCard

/-- THE TIED CARD OF 'warrantlaw05.JsonSame'. -/
def jsonSameCard : Claim7 := { stood := { row := jsonSameRow, standIns := [], harness := (true, "c2482a8f96fadebd371f67262e3144d295c6410f44531907e324312f33857b8c"), looks := true }, kinds := [], alts := [], laidByText := true, laidKinds := [.handle, .data], laidTests := true, laidLooks := .later }
def JsonSameCardSaid : Prop := Claim7.holds Tryz.pinned (.plain (OpenSpec.ofChange jsonSameSpec)) jsonSameCard

/-- THE TIED CARD OF 'warrantlaw05.JsonOrder'. -/
def jsonOrderCard : Claim7 := { stood := { row := jsonOrderRow, standIns := [], harness := (true, "c2482a8f96fadebd371f67262e3144d295c6410f44531907e324312f33857b8c"), looks := true }, kinds := [], alts := [], laidByText := true, laidKinds := [.handle, .data], laidTests := true, laidLooks := .later }
def JsonOrderCardSaid : Prop := Claim7.holds Tryz.pinned (.plain (OpenSpec.ofChange jsonOrderSpec)) jsonOrderCard

/-- THE TIED CARD OF 'warrantlaw08.JwsSigns'. -/
def jwsSignsCard : Claim7 := { stood := { row := jwsSignsRow, standIns := [], harness := (true, "c2482a8f96fadebd371f67262e3144d295c6410f44531907e324312f33857b8c"), looks := true }, kinds := [], alts := [], laidByText := true, laidKinds := [.data, .data, .data, .handle, .data, .pinned], laidTests := true, laidLooks := .later }
def JwsSignsCardSaid : Prop := Claim7.holds Tryz.pinned (.plain (OpenSpec.ofChange jwsSignsSpec)) jwsSignsCard

/-- THE TIED CARD OF 'warrantlaw08.JwsVerifies'. -/
def jwsVerifiesCard : Claim7 := { stood := { row := jwsVerifiesRow, standIns := [], harness := (true, "c2482a8f96fadebd371f67262e3144d295c6410f44531907e324312f33857b8c"), looks := true }, kinds := [], alts := [], laidByText := true, laidKinds := [.data, .data, .data, .handle, .data, .pinned], laidTests := true, laidLooks := .later }
def JwsVerifiesCardSaid : Prop := Claim7.holds Tryz.pinned (.plain (OpenSpec.ofChange jwsVerifiesSpec)) jwsVerifiesCard

/-- THE TIED CARD OF 'warrantlaw08.JwsHeads'. -/
def jwsHeadsCard : Claim7 := { stood := { row := jwsHeadsRow, standIns := [], harness := (true, "c2482a8f96fadebd371f67262e3144d295c6410f44531907e324312f33857b8c"), looks := true }, kinds := [], alts := [], laidByText := true, laidKinds := [.data, .data, .data, .handle, .data, .pinned], laidTests := true, laidLooks := .later }
def JwsHeadsCardSaid : Prop := Claim7.holds Tryz.pinned (.plain (OpenSpec.ofChange jwsHeadsSpec)) jwsHeadsCard

/-- THE TIED CARD OF 'warrantlaw08.JwsRotates'. -/
def jwsRotatesCard : Claim7 := { stood := { row := jwsRotatesRow, standIns := [], harness := (true, "c2482a8f96fadebd371f67262e3144d295c6410f44531907e324312f33857b8c"), looks := true }, kinds := [], alts := [], laidByText := true, laidKinds := [.data, .data, .data, .handle, .data, .pinned], laidTests := true, laidLooks := .later }
def JwsRotatesCardSaid : Prop := Claim7.holds Tryz.pinned (.plain (OpenSpec.ofChange jwsRotatesSpec)) jwsRotatesCard

/-- THE TIED CARD OF 'warrantlaw08.JwsBack'. -/
def jwsBackCard : Claim7 := { stood := { row := jwsBackRow, standIns := [], harness := (true, "c2482a8f96fadebd371f67262e3144d295c6410f44531907e324312f33857b8c"), looks := true }, kinds := [], alts := [], laidByText := true, laidKinds := [.data, .data, .data, .handle, .data, .pinned], laidTests := true, laidLooks := .later }
def JwsBackCardSaid : Prop := Claim7.holds Tryz.pinned (.plain (OpenSpec.ofChange jwsBackSpec)) jwsBackCard

/-- THE SECOND FORM's CARD OF 'warrantlaw05.JsonParses'. -/
def jsonParsesUptoCard : Claim7 := { stood := { row := jsonParsesUptoRow, standIns := [], harness := (true, "c2482a8f96fadebd371f67262e3144d295c6410f44531907e324312f33857b8c"), looks := true }, kinds := [], alts := [], laidByText := true, laidKinds := [.handle, .data], laidTests := true, laidLooks := .later }
def JsonParsesUptoCardSaid : Prop := Claim7.holds Tryz.pinned (.plain (OpenSpec.upto jsonParsesSpec)) jsonParsesUptoCard

/-- THE SECOND FORM's CARD OF 'warrantlaw05.JsonPrints'. -/
def jsonPrintsUptoCard : Claim7 := { stood := { row := jsonPrintsUptoRow, standIns := [], harness := (true, "c2482a8f96fadebd371f67262e3144d295c6410f44531907e324312f33857b8c"), looks := true }, kinds := [], alts := [], laidByText := true, laidKinds := [.handle, .data], laidTests := true, laidLooks := .later }
def JsonPrintsUptoCardSaid : Prop := Claim7.holds Tryz.pinned (.plain (OpenSpec.upto jsonPrintsSpec)) jsonPrintsUptoCard

/-- THE SECOND FORM's CARD OF 'warrantlaw05.JsonBack'. -/
def jsonBackUptoCard : Claim7 := { stood := { row := jsonBackUptoRow, standIns := [], harness := (true, "c2482a8f96fadebd371f67262e3144d295c6410f44531907e324312f33857b8c"), looks := true }, kinds := [], alts := [], laidByText := true, laidKinds := [.handle, .data], laidTests := true, laidLooks := .later }
def JsonBackUptoCardSaid : Prop := Claim7.holds Tryz.pinned (.plain (OpenSpec.upto jsonBackSpec)) jsonBackUptoCard

/-- THE SECOND FORM's CARD OF 'warrantlaw05.JsonBlanks'. -/
def jsonBlanksUptoCard : Claim7 := { stood := { row := jsonBlanksUptoRow, standIns := [], harness := (true, "c2482a8f96fadebd371f67262e3144d295c6410f44531907e324312f33857b8c"), looks := true }, kinds := [], alts := [], laidByText := true, laidKinds := [.handle, .data], laidTests := true, laidLooks := .later }
def JsonBlanksUptoCardSaid : Prop := Claim7.holds Tryz.pinned (.plain (OpenSpec.upto jsonBlanksSpec)) jsonBlanksUptoCard

/-- THE SECOND FORM's CARD OF 'warrantlaw05.JsonGets'. -/
def jsonGetsUptoCard : Claim7 := { stood := { row := jsonGetsUptoRow, standIns := [], harness := (true, "c2482a8f96fadebd371f67262e3144d295c6410f44531907e324312f33857b8c"), looks := true }, kinds := [], alts := [], laidByText := true, laidKinds := [.handle, .data], laidTests := true, laidLooks := .later }
def JsonGetsUptoCardSaid : Prop := Claim7.holds Tryz.pinned (.plain (OpenSpec.upto jsonGetsSpec)) jsonGetsUptoCard

/-- THE SECOND FORM's CARD OF 'warrantlaw05.JsonSame'. -/
def jsonSameUptoCard : Claim7 := { stood := { row := jsonSameUptoRow, standIns := [], harness := (true, "c2482a8f96fadebd371f67262e3144d295c6410f44531907e324312f33857b8c"), looks := true }, kinds := [], alts := [], laidByText := true, laidKinds := [.handle, .data], laidTests := true, laidLooks := .later }
def JsonSameUptoCardSaid : Prop := Claim7.holds Tryz.pinned (.plain (OpenSpec.upto jsonSameSpec)) jsonSameUptoCard

/-- THE SECOND FORM's CARD OF 'warrantlaw05.JsonOrder'. -/
def jsonOrderUptoCard : Claim7 := { stood := { row := jsonOrderUptoRow, standIns := [], harness := (true, "c2482a8f96fadebd371f67262e3144d295c6410f44531907e324312f33857b8c"), looks := true }, kinds := [], alts := [], laidByText := true, laidKinds := [.handle, .data], laidTests := true, laidLooks := .later }
def JsonOrderUptoCardSaid : Prop := Claim7.holds Tryz.pinned (.plain (OpenSpec.upto jsonOrderSpec)) jsonOrderUptoCard

/-- THE SECOND FORM's CARD OF 'warrantlaw08.JwsSigns'. -/
def jwsSignsUptoCard : Claim7 := { stood := { row := jwsSignsUptoRow, standIns := [], harness := (true, "c2482a8f96fadebd371f67262e3144d295c6410f44531907e324312f33857b8c"), looks := true }, kinds := [], alts := [], laidByText := true, laidKinds := [.data, .data, .data, .handle, .data, .pinned], laidTests := true, laidLooks := .later }
def JwsSignsUptoCardSaid : Prop := Claim7.holds Tryz.pinned (.plain (OpenSpec.upto jwsSignsSpec)) jwsSignsUptoCard

/-- THE SECOND FORM's CARD OF 'warrantlaw08.JwsVerifies'. -/
def jwsVerifiesUptoCard : Claim7 := { stood := { row := jwsVerifiesUptoRow, standIns := [], harness := (true, "c2482a8f96fadebd371f67262e3144d295c6410f44531907e324312f33857b8c"), looks := true }, kinds := [], alts := [], laidByText := true, laidKinds := [.data, .data, .data, .handle, .data, .pinned], laidTests := true, laidLooks := .later }
def JwsVerifiesUptoCardSaid : Prop := Claim7.holds Tryz.pinned (.plain (OpenSpec.upto jwsVerifiesSpec)) jwsVerifiesUptoCard

/-- THE SECOND FORM's CARD OF 'warrantlaw08.JwsHeads'. -/
def jwsHeadsUptoCard : Claim7 := { stood := { row := jwsHeadsUptoRow, standIns := [], harness := (true, "c2482a8f96fadebd371f67262e3144d295c6410f44531907e324312f33857b8c"), looks := true }, kinds := [], alts := [], laidByText := true, laidKinds := [.data, .data, .data, .handle, .data, .pinned], laidTests := true, laidLooks := .later }
def JwsHeadsUptoCardSaid : Prop := Claim7.holds Tryz.pinned (.plain (OpenSpec.upto jwsHeadsSpec)) jwsHeadsUptoCard

/-- THE SECOND FORM's CARD OF 'warrantlaw08.JwsRotates'. -/
def jwsRotatesUptoCard : Claim7 := { stood := { row := jwsRotatesUptoRow, standIns := [], harness := (true, "c2482a8f96fadebd371f67262e3144d295c6410f44531907e324312f33857b8c"), looks := true }, kinds := [], alts := [], laidByText := true, laidKinds := [.data, .data, .data, .handle, .data, .pinned], laidTests := true, laidLooks := .later }
def JwsRotatesUptoCardSaid : Prop := Claim7.holds Tryz.pinned (.plain (OpenSpec.upto jwsRotatesSpec)) jwsRotatesUptoCard

/-- THE SECOND FORM's CARD OF 'warrantlaw08.JwsBack'. -/
def jwsBackUptoCard : Claim7 := { stood := { row := jwsBackUptoRow, standIns := [], harness := (true, "c2482a8f96fadebd371f67262e3144d295c6410f44531907e324312f33857b8c"), looks := true }, kinds := [], alts := [], laidByText := true, laidKinds := [.data, .data, .data, .handle, .data, .pinned], laidTests := true, laidLooks := .later }
def JwsBackUptoCardSaid : Prop := Claim7.holds Tryz.pinned (.plain (OpenSpec.upto jwsBackSpec)) jwsBackUptoCard
end Rows
end Go.Proofs.YtlcljphbldjieaaGreatDoor
