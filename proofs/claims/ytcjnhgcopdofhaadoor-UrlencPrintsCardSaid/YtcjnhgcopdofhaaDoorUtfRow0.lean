/- From the rows' condition on errors.errorType and utf.firstMarks to what the walks ask of the world. -/
import Derived.Test.YtcjnhgcopdofhaaDoorErrRow
import Derived.Test.YtcjnhgcopdofhaaDoorUtfSmall
import Derived.LaidSub
import Derived.Lib.LaidTab
namespace Go.Proofs.YtcjnhgcopdofhaaDoor
open Go Go.RowKit

theorem gMarks : Tryd.prog.globalNamed "warrant/utf.firstMarks" = some 4 := by kernel_rfl
theorem tMarks : (Tryd.prog.globals[4]?).map (·.type) = some 129 := by kernel_rfl
theorem cInt : Tryd.prog.cellsOf 3 = 1 := by kernel_rfl
theorem cFive : Tryd.prog.cellsOf 129 = 5 := by kernel_rfl
theorem rowMarks : ((((begin Tryd.prog (fun _ _ => 0) default).world.heap[4]?).bind Obj.row?).map (·.2)) = some 129 := by kernel_rfl
theorem sizeGlobals : Tryd.prog.globals.size = 5 := by kernel_rfl
def laidP : List (String × DataW Unit) := [("warrant/utf.firstMarks", Rows.laid_warrant_utf_firstMarks)]
def laidB : List (String × DataW Unit) := [("errors.errorType", Rows.laid_errors_errorType), ("warrant/utf.firstMarks", Rows.laid_warrant_utf_firstMarks)]
theorem blk_of {W : World} {g : Nat} {t : TypeId} {n : String} {k : IntKind} {cs : Array Value} {zs : List Int} (hsh : W.ShapedOpen Tryd.prog) (hlt : g < Tryd.prog.globals.size)
    (hrow : ((((begin Tryd.prog (fun _ _ => 0) default).world.heap[g]?).bind Obj.row?).map (·.2)) = some t) (hg : Tryd.prog.globalNamed n = some g) (hv : W.var? Tryd.prog n = some cs) (hc : cs.toList = zs.map fun z => Value.int k z) :
    Blk W g t (ints k zs) := by
  obtain ⟨⟨zero, t'⟩, hz, ht⟩ := Option.map_eq_some_iff.1 hrow
  simp only at ht
  subst ht
  obtain ⟨cs', hh, _, _⟩ := hsh.1 g zero t' hlt hz
  have hcs : cs' = cs := by
    unfold World.var? at hv
    simp only [hg, Option.bind_some, hh] at hv
    exact Option.some.inj hv
  subst hcs
  unfold Blk
  rw [hh]
  have : cs' = (ints k zs).toArray := by rw [ints, ← hc]
  rw [this]
theorem errTabB {W : World} (h : laidMetH Tryd.prog laidB W) : ErrTab W := errTab_of (h.filter (fun x => x.1 == "errors.errorType"))
theorem marksB {W : World} (h : laidMetH Tryd.prog laidB W) (hsh : W.ShapedOpen Tryd.prog) : Marks W := by
  have h' : laidMet Tryd.prog laidP W := (laidMetH_iff.1 h).1
  obtain ⟨ps, ⟨g0, t0, cs0, f0, p0, q0, hg0, ht0, hv0, hd0, _, _⟩, _, _⟩ := h'
  obtain rfl := Option.some.inj (gMarks.symm.trans hg0)
  obtain rfl := Option.some.inj (tMarks.symm.trans ht0)
  have e0 := Lib.cells_of_tab (zs := [0, 0, 192, 224, 240]) Tryd.underlying129 Tryd.underlying3 cInt cFive hd0
  exact blk_of hsh (by rw [sizeGlobals]; decide) rowMarks gMarks hv0 e0
/-- A world that meets both. -/
noncomputable def laidWorldB (os : Os) : World := (laidWorldE os).layVars Tryd.prog laidP
theorem laidWorldB_os (os : Os) : (laidWorldB os).os = os := (World.layVars_os _ _ _).trans rfl
theorem laidWorldB_met (os : Os) (args : Array Value) : laidMetH Tryd.prog laidB ((laidWorldB os).forCall (fun _ _ => 0) ⟨#[], args, []⟩).memory := by
  refine laidMetH_of_parts ?_ (by kernel_rfl)
  have h : laidMet Tryd.prog laidP (laidWorldB os) := laidMet_layVars (w0 := laidWorldE os) ["warrant/utf.firstMarks"] [] (by kernel_rfl) (by kernel_rfl) (by kernel_rfl) LaidIn.none
  exact h.of_heap (by simp [World.memory, World.forCall, Input.heap])
end Go.Proofs.YtcjnhgcopdofhaaDoor
