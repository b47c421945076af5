
import Derived.Test.YtjfgmgkhinehaaaGreatDoorCq05
import Derived.Test.YtjfgmgkhinehaaaGreatDoorCq32
set_option maxRecDepth 100000
set_option maxHeartbeats 16000000
set_option linter.all false
namespace Go.Proofs.YtjfgmgkhinehaaaGreatDoor
open Go Go.RowKit
theorem maxLS_of {W:World} (h:W.ShapedOpen Tryz.prog):MaxLS W:=Go.Proofs.cell_of_shapedOpen_int (zero:= #[.int .i64 0]) (t:=3) h (of_decide_eq_true (by kernel_rfl)) (by kernel_rfl) rfl (by kernel_rfl) (by kernel_rfl) Tryz.underlying3
theorem ask9_of {W:World} (h:laidMetH Tryz.prog laidB W) (hsh:W.ShapedOpen Tryz.prog):Ask9 W:=⟨⟨errTabB h,marksB h hsh⟩,maxLS_of hsh⟩
end Go.Proofs.YtjfgmgkhinehaaaGreatDoor
