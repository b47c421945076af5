/- UtfRow0: merged. -/
import Derived.Test.YtcjfealalokjaaaGreatDoorPa04
import Derived.Test.YtcjfealalokjaaaGreatDoorPa05
import Derived.Test.YtcjfealalokjaaaGreatDoorPa25
set_option linter.all false
namespace Go.Proofs.YtcjfealalokjaaaGreatDoor
open Go Go.RowKit
def laidB : List (String × DataW Unit) := [("errors.errorType", Rows.laid_errors_errorType), ("warrant/utf.firstMarks", Rows.laid_warrant_utf_firstMarks)]
theorem errTabB {W : World} (h : laidMetH Tryz.prog laidB W) : ErrTab W := errTab_of (h.filter (fun x => x.1 == "errors.errorType"))
theorem marksB {W : World} (h : laidMetH Tryz.prog laidB W) (hsh : W.ShapedOpen Tryz.prog) : Marks W := by
  have h' : laidMet Tryz.prog laidP W := (laidMetH_iff.1 h).1
  obtain ⟨ps, ⟨g0, t0, cs0, f0, p0, q0, hg0, ht0, hv0, hd0, _, _⟩, _, _⟩ := h'
  obtain rfl := Option.some.inj (gMarks.symm.trans hg0)
  obtain rfl := Option.some.inj (tMarks.symm.trans ht0)
  have e0 := Lib.cells_of_tab (zs := [0, 0, 192, 224, 240]) Tryz.underlying225 Tryz.underlying3 cInt cFive hd0
  exact blk_of hsh (by rw [sizeGlobals]; decide) rowMarks gMarks hv0 e0
theorem laidWorldB_met (os : Os) (args : Array Value) : laidMetH Tryz.prog laidB ((laidWorldB os).forCall (fun _ _ => 0) ⟨#[], args, []⟩).memory := by
  refine laidMetH_of_parts ?_ (by kernel_rfl)
  have h : laidMet Tryz.prog laidP (laidWorldB os) := laidMet_layVars (w0 := laidWorldE os) ["warrant/utf.firstMarks"] [] (by kernel_rfl) (by kernel_rfl) (by kernel_rfl) LaidIn.none
  exact h.of_heap (by simp [World.memory, World.forCall, Input.heap])
end Go.Proofs.YtcjfealalokjaaaGreatDoor
