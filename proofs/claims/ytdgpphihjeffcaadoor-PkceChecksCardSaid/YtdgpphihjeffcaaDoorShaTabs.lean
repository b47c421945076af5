/- What the walks of sha's reference and laws lean on. -/
import Derived.Test.YtdgpphihjeffcaaDoorShaSame
import Derived.Test.YtdgpphihjeffcaaDoorKit4
namespace Go.Proofs.YtdgpphihjeffcaaDoor
open Go Go.RowKit

theorem Tabs.alloc {w : World} (h : Tabs w) (o : Obj) : Tabs (w.alloc o) := h.below (belowAlloc w o)
theorem info5s : (Tryd.prog.info? 5).map (fun i => (i.zero, i.size, i.bytes)) = some (some (.int .u8 0), 1, 1) := by kernel_rfl
end Go.Proofs.YtdgpphihjeffcaaDoor
