/- UtfRow0: merged. -/
import Derived.WalkLawsBesides
import Derived.WalkSpells
import Derived.Handy
import Derived.RegionTactic
import Derived.StillTailTactics
import Derived.LaidSub
import Derived.Lib.LaidTab
import Derived.Test.YtcjfealalokjaaaGreatDoorPa02
import Derived.Test.YtcjfealalokjaaaGreatDoorPa03
set_option linter.all false
namespace Go.Proofs.YtcjfealalokjaaaGreatDoor
open Go Go.RowKit
theorem gMarks : Tryz.prog.globalNamed "warrant/utf.firstMarks" = some 2 := by kernel_rfl
theorem tMarks : (Tryz.prog.globals[2]?).map (·.type) = some 225 := by kernel_rfl
theorem cInt : Tryz.prog.cellsOf 3 = 1 := by kernel_rfl
theorem cFive : Tryz.prog.cellsOf 225 = 5 := by kernel_rfl
theorem rowMarks : ((((begin Tryz.prog (fun _ _ => 0) default).world.heap[2]?).bind Obj.row?).map (·.2)) = some 225 := by kernel_rfl
theorem sizeGlobals : Tryz.prog.globals.size = 3 := by kernel_rfl
def laidP : List (String × DataW Unit) := [("warrant/utf.firstMarks", Rows.laid_warrant_utf_firstMarks)]
theorem blk_of {W : World} {g : Nat} {t : TypeId} {n : String} {k : IntKind} {cs : Array Value} {zs : List Int} (hsh : W.ShapedOpen Tryz.prog) (hlt : g < Tryz.prog.globals.size)
    (hrow : ((((begin Tryz.prog (fun _ _ => 0) default).world.heap[g]?).bind Obj.row?).map (·.2)) = some t) (hg : Tryz.prog.globalNamed n = some g) (hv : W.var? Tryz.prog n = some cs) (hc : cs.toList = zs.map fun z => Value.int k z) :
    Blk W g t (ints k zs) := by
  obtain ⟨⟨zero, t'⟩, hz, ht⟩ := Option.map_eq_some_iff.1 hrow
  simp only at ht
  subst ht
  obtain ⟨cs', hh, _, _⟩ := hsh.1 g zero t' hlt hz
  have hcs : cs' = cs := by
    unfold World.var? at hv
    simp only [hg, Option.bind_some, hh] at hv
    exact Option.some.inj hv
  subst hcs
  unfold Blk
  rw [hh]
  have : cs' = (ints k zs).toArray := by rw [ints, ← hc]
  rw [this]
/-- A world that meets both. -/
noncomputable def laidWorldB (os : Os) : World := (laidWorldE os).layVars Tryz.prog laidP
theorem laidWorldB_os (os : Os) : (laidWorldB os).os = os := (World.layVars_os _ _ _).trans rfl
end Go.Proofs.YtcjfealalokjaaaGreatDoor
