/-
  DERIVED. GIVEN WITH THE SEED: THE CARDS: each row of YtffdbhppbbkbbaaDoorRows.lean that lists a variable, with what it lists TIED to the program's text (the seventh form; the later family's looks); each row that meets fmt, with fmt's text TOLD by the authors' own Lean function (tested against real Go, not proved from fmt's source: count such statements apart). THE CARD IS WHAT COUNTS. Prove the row's statement (the work); the ties are given (YtffdbhppbbkbbaaDoorTie.lean); close each card by the builder's one call (the guide's Derived/Test/ToyasCard.lean, 'card_holds'). Laid BY PROGRAM, IN A SANDBOX (cutbox-door.mjs). By AI agents, Wed Nov 11 2026. No macro, syntax, notation, axiom, sorry.
-/
import Derived.Test.YtffdbhppbbkbbaaDoorRows
import GoSem.ClaimSeven
namespace Go.Proofs.YtffdbhppbbkbbaaDoor
namespace Rows

/-- THE TIED CARD OF 'warrantlaw01.ShaSums'. -/
def shaSumsCard : Claim7 := { stood := { row := shaSumsRow, standIns := [], harness := (true, "9d13866fae8295a9dbd1ce8a0d0efa311c4270d8aa210b2af8be8e4f9a820f86"), looks := false }, kinds := [], alts := [], laidByText := true, laidKinds := [.data, .data], laidTests := true, laidLooks := .later }
def ShaSumsCardSaid : Prop := Claim7.holds Tryd.pinned (.plain (OpenSpec.ofChange shaSumsSpec)) shaSumsCard

/-- THE TIED CARD OF 'warrantlaw01.ShaMacs'. -/
def shaMacsCard : Claim7 := { stood := { row := shaMacsRow, standIns := [], harness := (true, "9d13866fae8295a9dbd1ce8a0d0efa311c4270d8aa210b2af8be8e4f9a820f86"), looks := false }, kinds := [], alts := [], laidByText := true, laidKinds := [.data, .data], laidTests := true, laidLooks := .later }
def ShaMacsCardSaid : Prop := Claim7.holds Tryd.pinned (.plain (OpenSpec.ofChange shaMacsSpec)) shaMacsCard

/-- THE TIED CARD OF 'warrantlaw01.ShaCuts'. -/
def shaCutsCard : Claim7 := { stood := { row := shaCutsRow, standIns := [], harness := (true, "9d13866fae8295a9dbd1ce8a0d0efa311c4270d8aa210b2af8be8e4f9a820f86"), looks := false }, kinds := [], alts := [], laidByText := true, laidKinds := [.data, .data], laidTests := true, laidLooks := .later }
def ShaCutsCardSaid : Prop := Claim7.holds Tryd.pinned (.plain (OpenSpec.ofChange shaCutsSpec)) shaCutsCard

/-- THE TIED CARD OF 'warrantlaw01.ShaSame'. -/
def shaSameCard : Claim7 := { stood := { row := shaSameRow, standIns := [], harness := (true, "9d13866fae8295a9dbd1ce8a0d0efa311c4270d8aa210b2af8be8e4f9a820f86"), looks := false }, kinds := [], alts := [], laidByText := true, laidKinds := [.data, .data], laidTests := true, laidLooks := .later }
def ShaSameCardSaid : Prop := Claim7.holds Tryd.pinned (.plain (OpenSpec.ofChange shaSameSpec)) shaSameCard

/-- THE TIED CARD OF 'warrantlaw01.ShaKeys'. -/
def shaKeysCard : Claim7 := { stood := { row := shaKeysRow, standIns := [], harness := (true, "9d13866fae8295a9dbd1ce8a0d0efa311c4270d8aa210b2af8be8e4f9a820f86"), looks := false }, kinds := [], alts := [], laidByText := true, laidKinds := [.data, .data], laidTests := true, laidLooks := .later }
def ShaKeysCardSaid : Prop := Claim7.holds Tryd.pinned (.plain (OpenSpec.ofChange shaKeysSpec)) shaKeysCard

/-- THE SECOND FORM's CARD OF 'warrantlaw01.ShaSums'. -/
def shaSumsUptoCard : Claim7 := { stood := { row := shaSumsUptoRow, standIns := [], harness := (true, "9d13866fae8295a9dbd1ce8a0d0efa311c4270d8aa210b2af8be8e4f9a820f86"), looks := false }, kinds := [], alts := [], laidByText := true, laidKinds := [.data, .data], laidTests := true, laidLooks := .later }
def ShaSumsUptoCardSaid : Prop := Claim7.holds Tryd.pinned (.plain (OpenSpec.upto shaSumsSpec)) shaSumsUptoCard

/-- THE SECOND FORM's CARD OF 'warrantlaw01.ShaMacs'. -/
def shaMacsUptoCard : Claim7 := { stood := { row := shaMacsUptoRow, standIns := [], harness := (true, "9d13866fae8295a9dbd1ce8a0d0efa311c4270d8aa210b2af8be8e4f9a820f86"), looks := false }, kinds := [], alts := [], laidByText := true, laidKinds := [.data, .data], laidTests := true, laidLooks := .later }
def ShaMacsUptoCardSaid : Prop := Claim7.holds Tryd.pinned (.plain (OpenSpec.upto shaMacsSpec)) shaMacsUptoCard

/-- THE SECOND FORM's CARD OF 'warrantlaw01.ShaCuts'. -/
def shaCutsUptoCard : Claim7 := { stood := { row := shaCutsUptoRow, standIns := [], harness := (true, "9d13866fae8295a9dbd1ce8a0d0efa311c4270d8aa210b2af8be8e4f9a820f86"), looks := false }, kinds := [], alts := [], laidByText := true, laidKinds := [.data, .data], laidTests := true, laidLooks := .later }
def ShaCutsUptoCardSaid : Prop := Claim7.holds Tryd.pinned (.plain (OpenSpec.upto shaCutsSpec)) shaCutsUptoCard

/-- THE SECOND FORM's CARD OF 'warrantlaw01.ShaSame'. -/
def shaSameUptoCard : Claim7 := { stood := { row := shaSameUptoRow, standIns := [], harness := (true, "9d13866fae8295a9dbd1ce8a0d0efa311c4270d8aa210b2af8be8e4f9a820f86"), looks := false }, kinds := [], alts := [], laidByText := true, laidKinds := [.data, .data], laidTests := true, laidLooks := .later }
def ShaSameUptoCardSaid : Prop := Claim7.holds Tryd.pinned (.plain (OpenSpec.upto shaSameSpec)) shaSameUptoCard

/-- THE SECOND FORM's CARD OF 'warrantlaw01.ShaKeys'. -/
def shaKeysUptoCard : Claim7 := { stood := { row := shaKeysUptoRow, standIns := [], harness := (true, "9d13866fae8295a9dbd1ce8a0d0efa311c4270d8aa210b2af8be8e4f9a820f86"), looks := false }, kinds := [], alts := [], laidByText := true, laidKinds := [.data, .data], laidTests := true, laidLooks := .later }
def ShaKeysUptoCardSaid : Prop := Claim7.holds Tryd.pinned (.plain (OpenSpec.upto shaKeysSpec)) shaKeysUptoCard
end Rows
end Go.Proofs.YtffdbhppbbkbbaaDoor
