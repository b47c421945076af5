/-
  DERIVED. GIVEN WITH THE SEED: THE CARDS: each row of YtdgpphihjeffcaaDoorRows.lean that lists a variable, with what it lists TIED to the program's text (the seventh form; the later family's looks); each row that meets fmt, with fmt's text TOLD by the authors' own Lean function (tested against real Go, not proved from fmt's source: count such statements apart). THE CARD IS WHAT COUNTS. Prove the row's statement (the work); the ties are given (YtdgpphihjeffcaaDoorTie.lean); close each card by the builder's one call (the guide's Derived/Test/ToyasCard.lean, 'card_holds'). Laid BY PROGRAM, IN A SANDBOX (cutbox-door.mjs). By AI agents, Wed Nov 11 2026. No macro, syntax, notation, axiom, sorry.
-/
import Derived.Test.YtdgpphihjeffcaaDoorRows
import GoSem.ClaimSeven
namespace Go.Proofs.YtdgpphihjeffcaaDoor
namespace Rows

/-- THE TIED CARD OF 'warrantlaw10.PkceChallenges'. -/
def pkceChallengesCard : Claim7 := { stood := { row := pkceChallengesRow, standIns := [], harness := (true, "949db8deae1e16a485dff5e21107181e8bc36499f7ca80de9a98f564cde16f11"), looks := true }, kinds := [], alts := [], laidByText := true, laidKinds := [.data, .data, .handle], laidTests := true, laidLooks := .later }
def PkceChallengesCardSaid : Prop := Claim7.holds Tryd.pinned (.plain (OpenSpec.ofChange pkceChallengesSpec)) pkceChallengesCard

/-- THE TIED CARD OF 'warrantlaw10.PkceChecks'. -/
def pkceChecksCard : Claim7 := { stood := { row := pkceChecksRow, standIns := [], harness := (true, "949db8deae1e16a485dff5e21107181e8bc36499f7ca80de9a98f564cde16f11"), looks := true }, kinds := [], alts := [], laidByText := true, laidKinds := [.data, .data, .handle], laidTests := true, laidLooks := .later }
def PkceChecksCardSaid : Prop := Claim7.holds Tryd.pinned (.plain (OpenSpec.ofChange pkceChecksSpec)) pkceChecksCard

/-- THE TIED CARD OF 'warrantlaw10.PkceBack'. -/
def pkceBackCard : Claim7 := { stood := { row := pkceBackRow, standIns := [], harness := (true, "949db8deae1e16a485dff5e21107181e8bc36499f7ca80de9a98f564cde16f11"), looks := true }, kinds := [], alts := [], laidByText := true, laidKinds := [.data, .data], laidTests := true, laidLooks := .later }
def PkceBackCardSaid : Prop := Claim7.holds Tryd.pinned (.plain (OpenSpec.ofChange pkceBackSpec)) pkceBackCard

/-- THE SECOND FORM's CARD OF 'warrantlaw10.PkceChallenges'. -/
def pkceChallengesUptoCard : Claim7 := { stood := { row := pkceChallengesUptoRow, standIns := [], harness := (true, "949db8deae1e16a485dff5e21107181e8bc36499f7ca80de9a98f564cde16f11"), looks := true }, kinds := [], alts := [], laidByText := true, laidKinds := [.data, .data, .handle], laidTests := true, laidLooks := .later }
def PkceChallengesUptoCardSaid : Prop := Claim7.holds Tryd.pinned (.plain (OpenSpec.upto pkceChallengesSpec)) pkceChallengesUptoCard

/-- THE SECOND FORM's CARD OF 'warrantlaw10.PkceChecks'. -/
def pkceChecksUptoCard : Claim7 := { stood := { row := pkceChecksUptoRow, standIns := [], harness := (true, "949db8deae1e16a485dff5e21107181e8bc36499f7ca80de9a98f564cde16f11"), looks := true }, kinds := [], alts := [], laidByText := true, laidKinds := [.data, .data, .handle], laidTests := true, laidLooks := .later }
def PkceChecksUptoCardSaid : Prop := Claim7.holds Tryd.pinned (.plain (OpenSpec.upto pkceChecksSpec)) pkceChecksUptoCard

/-- THE SECOND FORM's CARD OF 'warrantlaw10.PkceBack'. -/
def pkceBackUptoCard : Claim7 := { stood := { row := pkceBackUptoRow, standIns := [], harness := (true, "949db8deae1e16a485dff5e21107181e8bc36499f7ca80de9a98f564cde16f11"), looks := true }, kinds := [], alts := [], laidByText := true, laidKinds := [.data, .data], laidTests := true, laidLooks := .later }
def PkceBackUptoCardSaid : Prop := Claim7.holds Tryd.pinned (.plain (OpenSpec.upto pkceBackSpec)) pkceBackUptoCard
end Rows
end Go.Proofs.YtdgpphihjeffcaaDoor
