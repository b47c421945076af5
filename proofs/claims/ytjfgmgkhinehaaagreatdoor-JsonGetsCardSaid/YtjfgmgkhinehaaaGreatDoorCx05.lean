/- UtfRow0: merged. -/
import Derived.LaidSub
import Derived.Lib.LaidTab
import Derived.Test.YtjfgmgkhinehaaaGreatDoorCx03
import Derived.Test.YtjfgmgkhinehaaaGreatDoorCx04
set_option linter.all false
namespace Go.Proofs.YtjfgmgkhinehaaaGreatDoor
open Go Go.RowKit
theorem gMarks : Tryz.prog.globalNamed "warrant/utf.firstMarks" = some 2 := by kernel_rfl
theorem tMarks : (Tryz.prog.globals[2]?).map (·.type) = some 261 := by kernel_rfl
theorem cInt : Tryz.prog.cellsOf 3 = 1 := by kernel_rfl
theorem cFive : Tryz.prog.cellsOf 261 = 5 := by kernel_rfl
theorem rowMarks : ((((begin Tryz.prog (fun _ _ => 0) default).world.heap[2]?).bind Obj.row?).map (·.2)) = some 261 := by kernel_rfl
theorem sizeGlobals : Tryz.prog.globals.size = 3 := by kernel_rfl
def laidP : List (String × DataW Unit) := [("warrant/utf.firstMarks", Rows.laid_warrant_utf_firstMarks)]
def laidB : List (String × DataW Unit) := [("errors.errorType", Rows.laid_errors_errorType), ("warrant/utf.firstMarks", Rows.laid_warrant_utf_firstMarks)]
theorem blk_of {W : World} {g : Nat} {t : TypeId} {n : String} {k : IntKind} {cs : Array Value} {zs : List Int} (hsh : W.ShapedOpen Tryz.prog) (hlt : g < Tryz.prog.globals.size)
    (hrow : ((((begin Tryz.prog (fun _ _ => 0) default).world.heap[g]?).bind Obj.row?).map (·.2)) = some t) (hg : Tryz.prog.globalNamed n = some g) (hv : W.var? Tryz.prog n = some cs) (hc : cs.toList = zs.map fun z => Value.int k z) :
    Blk W g t (ints k zs) := by
  obtain ⟨⟨zero, t'⟩, hz, ht⟩ := Option.map_eq_some_iff.1 hrow
  simp only at ht
  subst ht
  obtain ⟨cs', hh, _, _⟩ := hsh.1 g zero t' hlt hz
  have hcs : cs' = cs := by
    unfold World.var? at hv
    simp only [hg, Option.bind_some, hh] at hv
    exact Option.some.inj hv
  subst hcs
  unfold Blk
  rw [hh]
  have : cs' = (ints k zs).toArray := by rw [ints, ← hc]
  rw [this]
theorem errTabB {W : World} (h : laidMetH Tryz.prog laidB W) : ErrTab W := errTab_of (h.filter (fun x => x.1 == "errors.errorType"))
theorem marksB {W : World} (h : laidMetH Tryz.prog laidB W) (hsh : W.ShapedOpen Tryz.prog) : Marks W := by
  have h' : laidMet Tryz.prog laidP W := (laidMetH_iff.1 h).1
  obtain ⟨ps, ⟨g0, t0, cs0, f0, p0, q0, hg0, ht0, hv0, hd0, _, _⟩, _, _⟩ := h'
  obtain rfl := Option.some.inj (gMarks.symm.trans hg0)
  obtain rfl := Option.some.inj (tMarks.symm.trans ht0)
  have e0 := Lib.cells_of_tab (zs := [0, 0, 192, 224, 240]) Tryz.underlying261 Tryz.underlying3 cInt cFive hd0
  exact blk_of hsh (by rw [sizeGlobals]; decide) rowMarks gMarks hv0 e0
/-- A world that meets both. -/
noncomputable def laidWorldB (os : Os) : World := (laidWorldE os).layVars Tryz.prog laidP
theorem laidWorldB_os (os : Os) : (laidWorldB os).os = os := (World.layVars_os _ _ _).trans rfl
theorem laidWorldB_met (os : Os) (args : Array Value) : laidMetH Tryz.prog laidB ((laidWorldB os).forCall (fun _ _ => 0) ⟨#[], args, []⟩).memory := by
  refine laidMetH_of_parts ?_ (by kernel_rfl)
  have h : laidMet Tryz.prog laidP (laidWorldB os) := laidMet_layVars (w0 := laidWorldE os) ["warrant/utf.firstMarks"] [] (by kernel_rfl) (by kernel_rfl) (by kernel_rfl) LaidIn.none
  exact h.of_heap (by simp [World.memory, World.forCall, Input.heap])
end Go.Proofs.YtjfgmgkhinehaaaGreatDoor
