/- PolRow: merged. -/
import Derived.Test.YtcjfealalokjaaaGreatDoorPa20
import Derived.Test.YtcjfealalokjaaaGreatDoorPa21
import Derived.Test.YtcjfealalokjaaaGreatDoorPa26
set_option linter.all false
namespace Go.Proofs.YtcjfealalokjaaaGreatDoor
open Go Go.RowKit
theorem ask12B {W : World} (h : laidMetH Tryz.prog laidB W) (hsh : W.ShapedOpen Tryz.prog) : Ask12 W := ⟨marksB h hsh, maxL_of hsh⟩
end Go.Proofs.YtcjfealalokjaaaGreatDoor
