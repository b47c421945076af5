/- LxRow: merged. -/
import Derived.Test.YtljdnjidphmkjaaDoorLx11
import Derived.Test.YtljdnjidphmkjaaDoorLx12
import Derived.Test.YtljdnjidphmkjaaDoorLx33
set_option linter.all false
namespace Go.Proofs.YtljdnjidphmkjaaDoor
open Go Go.RowKit
theorem ask11B {W : World} (h : laidMetH Tryd.prog laidB W) (hsh : W.ShapedOpen Tryd.prog) : Ask11 W := ⟨marksB h hsh, maxL_of hsh⟩
end Go.Proofs.YtljdnjidphmkjaaDoor
