/- UtfRow0: merged. -/
import Derived.WalkLawsBesides
import Derived.WalkSpells
import Derived.Handy
import Derived.RegionTactic
import Derived.StillTailTactics
import Derived.LaidSub
import Derived.Lib.LaidTab
import Derived.Test.YtljdnjidphmkjaaDoorLk02
import Derived.Test.YtljdnjidphmkjaaDoorLk03
set_option linter.all false
namespace Go.Proofs.YtljdnjidphmkjaaDoor
open Go Go.RowKit
theorem gMarks : Tryd.prog.globalNamed "warrant/utf.firstMarks" = some 1 := by kernel_rfl
theorem tMarks : (Tryd.prog.globals[1]?).map (·.type) = some 129 := by kernel_rfl
theorem cInt : Tryd.prog.cellsOf 3 = 1 := by kernel_rfl
theorem cFive : Tryd.prog.cellsOf 129 = 5 := by kernel_rfl
theorem rowMarks : ((((begin Tryd.prog (fun _ _ => 0) default).world.heap[1]?).bind Obj.row?).map (·.2)) = some 129 := by kernel_rfl
theorem sizeGlobals : Tryd.prog.globals.size = 3 := by kernel_rfl
def laidP : List (String × DataW Unit) := [("warrant/utf.firstMarks", Rows.laid_warrant_utf_firstMarks)]
theorem blk_of {W : World} {g : Nat} {t : TypeId} {n : String} {k : IntKind} {cs : Array Value} {zs : List Int} (hsh : W.ShapedOpen Tryd.prog) (hlt : g < Tryd.prog.globals.size)
    (hrow : ((((begin Tryd.prog (fun _ _ => 0) default).world.heap[g]?).bind Obj.row?).map (·.2)) = some t) (hg : Tryd.prog.globalNamed n = some g) (hv : W.var? Tryd.prog n = some cs) (hc : cs.toList = zs.map fun z => Value.int k z) :
    Blk W g t (ints k zs) := by
  obtain ⟨⟨zero, t'⟩, hz, ht⟩ := Option.map_eq_some_iff.1 hrow
  simp only at ht
  subst ht
  obtain ⟨cs', hh, _, _⟩ := hsh.1 g zero t' hlt hz
  have hcs : cs' = cs := by
    unfold World.var? at hv
    simp only [hg, Option.bind_some, hh] at hv
    exact Option.some.inj hv
  subst hcs
  unfold Blk
  rw [hh]
  have : cs' = (ints k zs).toArray := by rw [ints, ← hc]
  rw [this]
/-- A world that meets both. -/
noncomputable def laidWorldB (os : Os) : World := (laidWorldE os).layVars Tryd.prog laidP
theorem laidWorldB_os (os : Os) : (laidWorldB os).os = os := (World.layVars_os _ _ _).trans rfl
end Go.Proofs.YtljdnjidphmkjaaDoor
