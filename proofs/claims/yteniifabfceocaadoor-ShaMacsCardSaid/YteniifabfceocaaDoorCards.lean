/-
  DERIVED. GIVEN WITH THE SEED: THE CARDS: each row of YteniifabfceocaaDoorRows.lean that lists a variable, with what it lists TIED to the program's text (the seventh form; the later family's looks); each row that meets fmt, with fmt's text TOLD by the authors' own Lean function (tested against real Go, not proved from fmt's source: count such statements apart). THE CARD IS WHAT COUNTS. Prove the row's statement (the work); the ties are given (YteniifabfceocaaDoorTie.lean); close each card by the builder's one call (the guide's Derived/Test/ToyasCard.lean, 'card_holds'). Laid BY PROGRAM, IN A SANDBOX (cutbox-door.mjs). By AI agents, Wed Nov 11 2026. No macro, syntax, notation, axiom, sorry.
-/
import Derived.Test.YteniifabfceocaaDoorRows
import GoSem.ClaimSeven
namespace Go.Proofs.YteniifabfceocaaDoor
namespace Rows

/-- THE TIED CARD OF 'warrantlaw01.ShaSums'. -/
def shaSumsCard : Claim7 := { stood := { row := shaSumsRow, standIns := [], harness := (true, "d35fe566ebcea50eb772de67b7c5e1c26f0ce6e6cb92801778a59560c823747b"), looks := true }, kinds := [], alts := [], laidByText := true, laidKinds := [.data, .data], laidTests := true, laidLooks := .later }
def ShaSumsCardSaid : Prop := Claim7.holds Tryd.pinned (.plain (OpenSpec.ofChange shaSumsSpec)) shaSumsCard

/-- THE TIED CARD OF 'warrantlaw01.ShaMacs'. -/
def shaMacsCard : Claim7 := { stood := { row := shaMacsRow, standIns := [], harness := (true, "d35fe566ebcea50eb772de67b7c5e1c26f0ce6e6cb92801778a59560c823747b"), looks := true }, kinds := [], alts := [], laidByText := true, laidKinds := [.data, .data], laidTests := true, laidLooks := .later }
def ShaMacsCardSaid : Prop := Claim7.holds Tryd.pinned (.plain (OpenSpec.ofChange shaMacsSpec)) shaMacsCard

/-- THE TIED CARD OF 'warrantlaw01.ShaCuts'. -/
def shaCutsCard : Claim7 := { stood := { row := shaCutsRow, standIns := [], harness := (true, "d35fe566ebcea50eb772de67b7c5e1c26f0ce6e6cb92801778a59560c823747b"), looks := true }, kinds := [], alts := [], laidByText := true, laidKinds := [.data, .data], laidTests := true, laidLooks := .later }
def ShaCutsCardSaid : Prop := Claim7.holds Tryd.pinned (.plain (OpenSpec.ofChange shaCutsSpec)) shaCutsCard

/-- THE TIED CARD OF 'warrantlaw02.B64Encodes'. -/
def b64EncodesCard : Claim7 := { stood := { row := b64EncodesRow, standIns := [], harness := (true, "d35fe566ebcea50eb772de67b7c5e1c26f0ce6e6cb92801778a59560c823747b"), looks := true }, kinds := [], alts := [], laidByText := true, laidKinds := [.handle], laidTests := true, laidLooks := .later }
def B64EncodesCardSaid : Prop := Claim7.holds Tryd.pinned (.plain (OpenSpec.ofChange b64EncodesSpec)) b64EncodesCard

/-- THE TIED CARD OF 'warrantlaw02.B64Decodes'. -/
def b64DecodesCard : Claim7 := { stood := { row := b64DecodesRow, standIns := [], harness := (true, "d35fe566ebcea50eb772de67b7c5e1c26f0ce6e6cb92801778a59560c823747b"), looks := true }, kinds := [], alts := [], laidByText := true, laidKinds := [.handle], laidTests := true, laidLooks := .later }
def B64DecodesCardSaid : Prop := Claim7.holds Tryd.pinned (.plain (OpenSpec.ofChange b64DecodesSpec)) b64DecodesCard

/-- THE TIED CARD OF 'warrantlaw02.B64Back'. -/
def b64BackCard : Claim7 := { stood := { row := b64BackRow, standIns := [], harness := (true, "d35fe566ebcea50eb772de67b7c5e1c26f0ce6e6cb92801778a59560c823747b"), looks := true }, kinds := [], alts := [], laidByText := true, laidKinds := [.handle], laidTests := true, laidLooks := .later }
def B64BackCardSaid : Prop := Claim7.holds Tryd.pinned (.plain (OpenSpec.ofChange b64BackSpec)) b64BackCard

/-- THE TIED CARD OF 'warrantlaw02.B64Signs'. -/
def b64SignsCard : Claim7 := { stood := { row := b64SignsRow, standIns := [], harness := (true, "d35fe566ebcea50eb772de67b7c5e1c26f0ce6e6cb92801778a59560c823747b"), looks := true }, kinds := [], alts := [], laidByText := true, laidKinds := [.handle], laidTests := true, laidLooks := .later }
def B64SignsCardSaid : Prop := Claim7.holds Tryd.pinned (.plain (OpenSpec.ofChange b64SignsSpec)) b64SignsCard

/-- THE SECOND FORM's CARD OF 'warrantlaw01.ShaSums'. -/
def shaSumsUptoCard : Claim7 := { stood := { row := shaSumsUptoRow, standIns := [], harness := (true, "d35fe566ebcea50eb772de67b7c5e1c26f0ce6e6cb92801778a59560c823747b"), looks := true }, kinds := [], alts := [], laidByText := true, laidKinds := [.data, .data], laidTests := true, laidLooks := .later }
def ShaSumsUptoCardSaid : Prop := Claim7.holds Tryd.pinned (.plain (OpenSpec.upto shaSumsSpec)) shaSumsUptoCard

/-- THE SECOND FORM's CARD OF 'warrantlaw01.ShaMacs'. -/
def shaMacsUptoCard : Claim7 := { stood := { row := shaMacsUptoRow, standIns := [], harness := (true, "d35fe566ebcea50eb772de67b7c5e1c26f0ce6e6cb92801778a59560c823747b"), looks := true }, kinds := [], alts := [], laidByText := true, laidKinds := [.data, .data], laidTests := true, laidLooks := .later }
def ShaMacsUptoCardSaid : Prop := Claim7.holds Tryd.pinned (.plain (OpenSpec.upto shaMacsSpec)) shaMacsUptoCard

/-- THE SECOND FORM's CARD OF 'warrantlaw01.ShaCuts'. -/
def shaCutsUptoCard : Claim7 := { stood := { row := shaCutsUptoRow, standIns := [], harness := (true, "d35fe566ebcea50eb772de67b7c5e1c26f0ce6e6cb92801778a59560c823747b"), looks := true }, kinds := [], alts := [], laidByText := true, laidKinds := [.data, .data], laidTests := true, laidLooks := .later }
def ShaCutsUptoCardSaid : Prop := Claim7.holds Tryd.pinned (.plain (OpenSpec.upto shaCutsSpec)) shaCutsUptoCard

/-- THE SECOND FORM's CARD OF 'warrantlaw02.B64Encodes'. -/
def b64EncodesUptoCard : Claim7 := { stood := { row := b64EncodesUptoRow, standIns := [], harness := (true, "d35fe566ebcea50eb772de67b7c5e1c26f0ce6e6cb92801778a59560c823747b"), looks := true }, kinds := [], alts := [], laidByText := true, laidKinds := [.handle], laidTests := true, laidLooks := .later }
def B64EncodesUptoCardSaid : Prop := Claim7.holds Tryd.pinned (.plain (OpenSpec.upto b64EncodesSpec)) b64EncodesUptoCard

/-- THE SECOND FORM's CARD OF 'warrantlaw02.B64Decodes'. -/
def b64DecodesUptoCard : Claim7 := { stood := { row := b64DecodesUptoRow, standIns := [], harness := (true, "d35fe566ebcea50eb772de67b7c5e1c26f0ce6e6cb92801778a59560c823747b"), looks := true }, kinds := [], alts := [], laidByText := true, laidKinds := [.handle], laidTests := true, laidLooks := .later }
def B64DecodesUptoCardSaid : Prop := Claim7.holds Tryd.pinned (.plain (OpenSpec.upto b64DecodesSpec)) b64DecodesUptoCard

/-- THE SECOND FORM's CARD OF 'warrantlaw02.B64Back'. -/
def b64BackUptoCard : Claim7 := { stood := { row := b64BackUptoRow, standIns := [], harness := (true, "d35fe566ebcea50eb772de67b7c5e1c26f0ce6e6cb92801778a59560c823747b"), looks := true }, kinds := [], alts := [], laidByText := true, laidKinds := [.handle], laidTests := true, laidLooks := .later }
def B64BackUptoCardSaid : Prop := Claim7.holds Tryd.pinned (.plain (OpenSpec.upto b64BackSpec)) b64BackUptoCard

/-- THE SECOND FORM's CARD OF 'warrantlaw02.B64Signs'. -/
def b64SignsUptoCard : Claim7 := { stood := { row := b64SignsUptoRow, standIns := [], harness := (true, "d35fe566ebcea50eb772de67b7c5e1c26f0ce6e6cb92801778a59560c823747b"), looks := true }, kinds := [], alts := [], laidByText := true, laidKinds := [.handle], laidTests := true, laidLooks := .later }
def B64SignsUptoCardSaid : Prop := Claim7.holds Tryd.pinned (.plain (OpenSpec.upto b64SignsSpec)) b64SignsUptoCard
end Rows
end Go.Proofs.YteniifabfceocaaDoor
