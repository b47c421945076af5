/-
  DERIVED. GIVEN WITH THE SEED: THE CARDS: each row of YtcjfealalokjaaaGreatDoorRows.lean that lists a variable, with what it lists TIED to the program's text (the seventh form; the later family's looks); each row that meets fmt, with fmt's text TOLD by the authors' own Lean function (tested against real Go, not proved from fmt's source: count such statements apart). THE CARD IS WHAT COUNTS. Prove the row's statement (the work); the ties are given (YtcjfealalokjaaaGreatDoorTie.lean); close each card by the builder's one call (the guide's Derived/Test/ToyasCard.lean, 'card_holds'). Laid BY PROGRAM, IN A SANDBOX (cutbox-door.mjs). By AI agents, Wed Nov 11 2026. No macro, syntax, notation, axiom, sorry.
-/
import Derived.Test.YtcjfealalokjaaaGreatDoorRows
import GoSem.ClaimSeven
namespace Go.Proofs.YtcjfealalokjaaaGreatDoor
namespace Rows

/-- THE TIED CARD OF 'warrantlaw12.PolParses'. -/
def polParsesCard : Claim7 := { stood := { row := polParsesRow, standIns := [], harness := (true, "d315294574e16ae8364688169ef3b42c4726479bae46b55ae27007df0ac35010"), looks := true }, kinds := [], alts := [], laidByText := true, laidKinds := [.handle, .data], laidTests := true, laidLooks := .later }
def PolParsesCardSaid : Prop := Claim7.holds Tryz.pinned (.plain (OpenSpec.ofChange polParsesSpec)) polParsesCard

/-- THE TIED CARD OF 'warrantlaw12.PolPrints'. -/
def polPrintsCard : Claim7 := { stood := { row := polPrintsRow, standIns := [], harness := (true, "d315294574e16ae8364688169ef3b42c4726479bae46b55ae27007df0ac35010"), looks := true }, kinds := [], alts := [], laidByText := true, laidKinds := [.handle, .data], laidTests := true, laidLooks := .later }
def PolPrintsCardSaid : Prop := Claim7.holds Tryz.pinned (.plain (OpenSpec.ofChange polPrintsSpec)) polPrintsCard

/-- THE TIED CARD OF 'warrantlaw12.PolSame'. -/
def polSameCard : Claim7 := { stood := { row := polSameRow, standIns := [], harness := (true, "d315294574e16ae8364688169ef3b42c4726479bae46b55ae27007df0ac35010"), looks := true }, kinds := [], alts := [], laidByText := true, laidKinds := [.data], laidTests := true, laidLooks := .later }
def PolSameCardSaid : Prop := Claim7.holds Tryz.pinned (.plain (OpenSpec.ofChange polSameSpec)) polSameCard

/-- THE TIED CARD OF 'warrantlaw12.PolJoins'. -/
def polJoinsCard : Claim7 := { stood := { row := polJoinsRow, standIns := [], harness := (true, "d315294574e16ae8364688169ef3b42c4726479bae46b55ae27007df0ac35010"), looks := true }, kinds := [], alts := [], laidByText := true, laidKinds := [.handle, .data], laidTests := true, laidLooks := .later }
def PolJoinsCardSaid : Prop := Claim7.holds Tryz.pinned (.plain (OpenSpec.ofChange polJoinsSpec)) polJoinsCard

/-- THE TIED CARD OF 'warrantlaw13.CheckKinds'. -/
def checkKindsCard : Claim7 := { stood := { row := checkKindsRow, standIns := [], harness := (true, "d315294574e16ae8364688169ef3b42c4726479bae46b55ae27007df0ac35010"), looks := true }, kinds := [], alts := [], laidByText := true, laidKinds := [.handle, .data], laidTests := true, laidLooks := .later }
def CheckKindsCardSaid : Prop := Claim7.holds Tryz.pinned (.plain (OpenSpec.ofChange checkKindsSpec)) checkKindsCard

/-- THE TIED CARD OF 'warrantlaw13.CheckAlone'. -/
def checkAloneCard : Claim7 := { stood := { row := checkAloneRow, standIns := [], harness := (true, "d315294574e16ae8364688169ef3b42c4726479bae46b55ae27007df0ac35010"), looks := true }, kinds := [], alts := [], laidByText := true, laidKinds := [.handle, .data], laidTests := true, laidLooks := .later }
def CheckAloneCardSaid : Prop := Claim7.holds Tryz.pinned (.plain (OpenSpec.ofChange checkAloneSpec)) checkAloneCard

/-- THE SECOND FORM's CARD OF 'warrantlaw12.PolParses'. -/
def polParsesUptoCard : Claim7 := { stood := { row := polParsesUptoRow, standIns := [], harness := (true, "d315294574e16ae8364688169ef3b42c4726479bae46b55ae27007df0ac35010"), looks := true }, kinds := [], alts := [], laidByText := true, laidKinds := [.handle, .data], laidTests := true, laidLooks := .later }
def PolParsesUptoCardSaid : Prop := Claim7.holds Tryz.pinned (.plain (OpenSpec.upto polParsesSpec)) polParsesUptoCard

/-- THE SECOND FORM's CARD OF 'warrantlaw12.PolPrints'. -/
def polPrintsUptoCard : Claim7 := { stood := { row := polPrintsUptoRow, standIns := [], harness := (true, "d315294574e16ae8364688169ef3b42c4726479bae46b55ae27007df0ac35010"), looks := true }, kinds := [], alts := [], laidByText := true, laidKinds := [.handle, .data], laidTests := true, laidLooks := .later }
def PolPrintsUptoCardSaid : Prop := Claim7.holds Tryz.pinned (.plain (OpenSpec.upto polPrintsSpec)) polPrintsUptoCard

/-- THE SECOND FORM's CARD OF 'warrantlaw12.PolSame'. -/
def polSameUptoCard : Claim7 := { stood := { row := polSameUptoRow, standIns := [], harness := (true, "d315294574e16ae8364688169ef3b42c4726479bae46b55ae27007df0ac35010"), looks := true }, kinds := [], alts := [], laidByText := true, laidKinds := [.data], laidTests := true, laidLooks := .later }
def PolSameUptoCardSaid : Prop := Claim7.holds Tryz.pinned (.plain (OpenSpec.upto polSameSpec)) polSameUptoCard

/-- THE SECOND FORM's CARD OF 'warrantlaw12.PolJoins'. -/
def polJoinsUptoCard : Claim7 := { stood := { row := polJoinsUptoRow, standIns := [], harness := (true, "d315294574e16ae8364688169ef3b42c4726479bae46b55ae27007df0ac35010"), looks := true }, kinds := [], alts := [], laidByText := true, laidKinds := [.handle, .data], laidTests := true, laidLooks := .later }
def PolJoinsUptoCardSaid : Prop := Claim7.holds Tryz.pinned (.plain (OpenSpec.upto polJoinsSpec)) polJoinsUptoCard

/-- THE SECOND FORM's CARD OF 'warrantlaw13.CheckKinds'. -/
def checkKindsUptoCard : Claim7 := { stood := { row := checkKindsUptoRow, standIns := [], harness := (true, "d315294574e16ae8364688169ef3b42c4726479bae46b55ae27007df0ac35010"), looks := true }, kinds := [], alts := [], laidByText := true, laidKinds := [.handle, .data], laidTests := true, laidLooks := .later }
def CheckKindsUptoCardSaid : Prop := Claim7.holds Tryz.pinned (.plain (OpenSpec.upto checkKindsSpec)) checkKindsUptoCard

/-- THE SECOND FORM's CARD OF 'warrantlaw13.CheckAlone'. -/
def checkAloneUptoCard : Claim7 := { stood := { row := checkAloneUptoRow, standIns := [], harness := (true, "d315294574e16ae8364688169ef3b42c4726479bae46b55ae27007df0ac35010"), looks := true }, kinds := [], alts := [], laidByText := true, laidKinds := [.handle, .data], laidTests := true, laidLooks := .later }
def CheckAloneUptoCardSaid : Prop := Claim7.holds Tryz.pinned (.plain (OpenSpec.upto checkAloneSpec)) checkAloneUptoCard
end Rows
end Go.Proofs.YtcjfealalokjaaaGreatDoor
