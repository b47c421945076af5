/-
  DERIVED. GIVEN WITH THE SEED: THE CARDS: each row of YtapalkipdmdceaaDoorRows.lean that lists a variable, with what it lists TIED to the program's text (the seventh form; the later family's looks); each row that meets fmt, with fmt's text TOLD by the authors' own Lean function (tested against real Go, not proved from fmt's source: count such statements apart). THE CARD IS WHAT COUNTS. Prove the row's statement (the work); the ties are given (YtapalkipdmdceaaDoorTie.lean); close each card by the builder's one call (the guide's Derived/Test/ToyasCard.lean, 'card_holds'). Laid BY PROGRAM, IN A SANDBOX (cutbox-door.mjs). By AI agents, Wed Nov 11 2026. No macro, syntax, notation, axiom, sorry.
-/
import Derived.Test.YtapalkipdmdceaaDoorRows
import GoSem.ClaimSeven
namespace Go.Proofs.YtapalkipdmdceaaDoor
namespace Rows

/-- THE TIED CARD OF 'warrantlaw07.ScopeParses'. -/
def scopeParsesCard : Claim7 := { stood := { row := scopeParsesRow, standIns := [], harness := (true, "eb5820f8f6cee80658e3532412c20c27290e545eaf0bc83e2175958ed58a7d97"), looks := true }, kinds := [], alts := [], laidByText := true, laidKinds := [.handle], laidTests := true, laidLooks := .later }
def ScopeParsesCardSaid : Prop := Claim7.holds Tryd.pinned (.plain (OpenSpec.ofChange scopeParsesSpec)) scopeParsesCard

/-- THE TIED CARD OF 'warrantlaw07.ScopeChecks'. -/
def scopeChecksCard : Claim7 := { stood := { row := scopeChecksRow, standIns := [], harness := (true, "eb5820f8f6cee80658e3532412c20c27290e545eaf0bc83e2175958ed58a7d97"), looks := true }, kinds := [], alts := [], laidByText := true, laidKinds := [.handle], laidTests := true, laidLooks := .later }
def ScopeChecksCardSaid : Prop := Claim7.holds Tryd.pinned (.plain (OpenSpec.ofChange scopeChecksSpec)) scopeChecksCard

/-- THE SECOND FORM's CARD OF 'warrantlaw07.ScopeParses'. -/
def scopeParsesUptoCard : Claim7 := { stood := { row := scopeParsesUptoRow, standIns := [], harness := (true, "eb5820f8f6cee80658e3532412c20c27290e545eaf0bc83e2175958ed58a7d97"), looks := true }, kinds := [], alts := [], laidByText := true, laidKinds := [.handle], laidTests := true, laidLooks := .later }
def ScopeParsesUptoCardSaid : Prop := Claim7.holds Tryd.pinned (.plain (OpenSpec.upto scopeParsesSpec)) scopeParsesUptoCard

/-- THE SECOND FORM's CARD OF 'warrantlaw07.ScopeChecks'. -/
def scopeChecksUptoCard : Claim7 := { stood := { row := scopeChecksUptoRow, standIns := [], harness := (true, "eb5820f8f6cee80658e3532412c20c27290e545eaf0bc83e2175958ed58a7d97"), looks := true }, kinds := [], alts := [], laidByText := true, laidKinds := [.handle], laidTests := true, laidLooks := .later }
def ScopeChecksUptoCardSaid : Prop := Claim7.holds Tryd.pinned (.plain (OpenSpec.upto scopeChecksSpec)) scopeChecksUptoCard
end Rows
end Go.Proofs.YtapalkipdmdceaaDoor
