/- From the rows' condition on four package variables to what the walks of urlenc's laws ask of the world. -/
import Derived.Test.YtcjnhgcopdofhaaDoorUtfRow0
import Derived.Test.YtcjnhgcopdofhaaDoorUrLaw
namespace Go.Proofs.YtcjnhgcopdofhaaDoor
open Go Go.RowKit

def laidQ : List (String × DataW Unit) := [("unicode/utf8.acceptRanges", Rows.laid_unicode_utf8_acceptRanges), ("warrant/utf.firstMarks", Rows.laid_warrant_utf_firstMarks), ("unicode/utf8.first", Rows.laid_unicode_utf8_first)]
def laidU : List (String × DataW Unit) := [("unicode/utf8.acceptRanges", Rows.laid_unicode_utf8_acceptRanges), ("errors.errorType", Rows.laid_errors_errorType), ("warrant/utf.firstMarks", Rows.laid_warrant_utf_firstMarks), ("unicode/utf8.first", Rows.laid_unicode_utf8_first)]
theorem laidB_of {W : World} (h : laidMetH Tryd.prog laidU W) : laidMetH Tryd.prog laidB W := h.filter (fun x => x.1 == "errors.errorType" || x.1 == "warrant/utf.firstMarks")
theorem maxL_of {W : World} (h : W.ShapedOpen Tryd.prog) : MaxL W := Go.Proofs.cell_of_shapedOpen_int (zero := #[.int .i64 0]) (t := 3) h (of_decide_eq_true (by kernel_rfl)) (by kernel_rfl) rfl (by kernel_rfl) (by kernel_rfl) Tryd.underlying3
theorem ask6_of {W : World} (h : laidMetH Tryd.prog laidU W) (hsh : W.ShapedOpen Tryd.prog) : Ask6 W := ⟨errTabB (laidB_of h), marksB (laidB_of h) hsh, maxL_of hsh⟩
/-- A world that meets all. -/
noncomputable def laidWorldU (os : Os) : World := (laidWorldE os).layVars Tryd.prog laidQ
theorem laidWorldU_os (os : Os) : (laidWorldU os).os = os := (World.layVars_os _ _ _).trans rfl
theorem laidWorldU_met (os : Os) (args : Array Value) : laidMetH Tryd.prog laidU ((laidWorldU os).forCall (fun _ _ => 0) ⟨#[], args, []⟩).memory := by
  refine laidMetH_of_parts ?_ (by kernel_rfl)
  have h : laidMet Tryd.prog laidQ (laidWorldU os) := laidMet_layVars (w0 := laidWorldE os) ["unicode/utf8.acceptRanges", "warrant/utf.firstMarks", "unicode/utf8.first"] [] (by kernel_rfl) (by kernel_rfl) (by kernel_rfl) LaidIn.none
  exact h.of_heap (by simp [World.memory, World.forCall, Input.heap])
end Go.Proofs.YtcjnhgcopdofhaaDoor
