/-
  DERIVED. GIVEN WITH THE SEED: THE CARDS: each row of YtceddodfddlncaaGreatDoorRows.lean that lists a variable, with what it lists TIED to the program's text (the seventh form; the later family's looks); each row that meets fmt, with fmt's text TOLD by the authors' own Lean function (tested against real Go, not proved from fmt's source: count such statements apart). THE CARD IS WHAT COUNTS. Prove the row's statement (the work); the ties are given (YtceddodfddlncaaGreatDoorTie.lean); close each card by the builder's one call (the guide's Derived/Test/ToyasCard.lean, 'card_holds'). Laid BY PROGRAM, IN A SANDBOX (cutbox-door.mjs). By AI agents, Wed Nov 11 2026. No macro, syntax, notation, axiom, sorry.
-/
import Derived.Test.YtceddodfddlncaaGreatDoorRows
import GoSem.ClaimSeven
namespace Go.Proofs.YtceddodfddlncaaGreatDoor
namespace Rows

/-- THE TIED CARD OF 'warrantlaw08.JwsSigns'. -/
def jwsSignsCard : Claim7 := { stood := { row := jwsSignsRow, standIns := [], harness := (true, "e7985848cb6f30b6d4f7bbcd454f29335594b1fda69663c15b573e5eaaa62ed7"), looks := true }, kinds := [], alts := [], laidByText := true, laidKinds := [.data, .data, .data, .handle, .data, .pinned], laidTests := true, laidLooks := .later }
def JwsSignsCardSaid : Prop := Claim7.holds Tryz.pinned (.plain (OpenSpec.ofChange jwsSignsSpec)) jwsSignsCard

/-- THE TIED CARD OF 'warrantlaw08.JwsVerifies'. -/
def jwsVerifiesCard : Claim7 := { stood := { row := jwsVerifiesRow, standIns := [], harness := (true, "e7985848cb6f30b6d4f7bbcd454f29335594b1fda69663c15b573e5eaaa62ed7"), looks := true }, kinds := [], alts := [], laidByText := true, laidKinds := [.data, .data, .data, .handle, .data, .pinned], laidTests := true, laidLooks := .later }
def JwsVerifiesCardSaid : Prop := Claim7.holds Tryz.pinned (.plain (OpenSpec.ofChange jwsVerifiesSpec)) jwsVerifiesCard

/-- THE TIED CARD OF 'warrantlaw08.JwsHeads'. -/
def jwsHeadsCard : Claim7 := { stood := { row := jwsHeadsRow, standIns := [], harness := (true, "e7985848cb6f30b6d4f7bbcd454f29335594b1fda69663c15b573e5eaaa62ed7"), looks := true }, kinds := [], alts := [], laidByText := true, laidKinds := [.data, .data, .data, .handle, .data, .pinned], laidTests := true, laidLooks := .later }
def JwsHeadsCardSaid : Prop := Claim7.holds Tryz.pinned (.plain (OpenSpec.ofChange jwsHeadsSpec)) jwsHeadsCard

/-- THE TIED CARD OF 'warrantlaw08.JwsBack'. -/
def jwsBackCard : Claim7 := { stood := { row := jwsBackRow, standIns := [], harness := (true, "e7985848cb6f30b6d4f7bbcd454f29335594b1fda69663c15b573e5eaaa62ed7"), looks := true }, kinds := [], alts := [], laidByText := true, laidKinds := [.data, .data, .data, .handle, .data, .pinned], laidTests := true, laidLooks := .later }
def JwsBackCardSaid : Prop := Claim7.holds Tryz.pinned (.plain (OpenSpec.ofChange jwsBackSpec)) jwsBackCard

/-- THE SECOND FORM's CARD OF 'warrantlaw08.JwsSigns'. -/
def jwsSignsUptoCard : Claim7 := { stood := { row := jwsSignsUptoRow, standIns := [], harness := (true, "e7985848cb6f30b6d4f7bbcd454f29335594b1fda69663c15b573e5eaaa62ed7"), looks := true }, kinds := [], alts := [], laidByText := true, laidKinds := [.data, .data, .data, .handle, .data, .pinned], laidTests := true, laidLooks := .later }
def JwsSignsUptoCardSaid : Prop := Claim7.holds Tryz.pinned (.plain (OpenSpec.upto jwsSignsSpec)) jwsSignsUptoCard

/-- THE SECOND FORM's CARD OF 'warrantlaw08.JwsVerifies'. -/
def jwsVerifiesUptoCard : Claim7 := { stood := { row := jwsVerifiesUptoRow, standIns := [], harness := (true, "e7985848cb6f30b6d4f7bbcd454f29335594b1fda69663c15b573e5eaaa62ed7"), looks := true }, kinds := [], alts := [], laidByText := true, laidKinds := [.data, .data, .data, .handle, .data, .pinned], laidTests := true, laidLooks := .later }
def JwsVerifiesUptoCardSaid : Prop := Claim7.holds Tryz.pinned (.plain (OpenSpec.upto jwsVerifiesSpec)) jwsVerifiesUptoCard

/-- THE SECOND FORM's CARD OF 'warrantlaw08.JwsHeads'. -/
def jwsHeadsUptoCard : Claim7 := { stood := { row := jwsHeadsUptoRow, standIns := [], harness := (true, "e7985848cb6f30b6d4f7bbcd454f29335594b1fda69663c15b573e5eaaa62ed7"), looks := true }, kinds := [], alts := [], laidByText := true, laidKinds := [.data, .data, .data, .handle, .data, .pinned], laidTests := true, laidLooks := .later }
def JwsHeadsUptoCardSaid : Prop := Claim7.holds Tryz.pinned (.plain (OpenSpec.upto jwsHeadsSpec)) jwsHeadsUptoCard

/-- THE SECOND FORM's CARD OF 'warrantlaw08.JwsBack'. -/
def jwsBackUptoCard : Claim7 := { stood := { row := jwsBackUptoRow, standIns := [], harness := (true, "e7985848cb6f30b6d4f7bbcd454f29335594b1fda69663c15b573e5eaaa62ed7"), looks := true }, kinds := [], alts := [], laidByText := true, laidKinds := [.data, .data, .data, .handle, .data, .pinned], laidTests := true, laidLooks := .later }
def JwsBackUptoCardSaid : Prop := Claim7.holds Tryz.pinned (.plain (OpenSpec.upto jwsBackSpec)) jwsBackUptoCard
end Rows
end Go.Proofs.YtceddodfddlncaaGreatDoor
