/- What the walks of layer 7 ask of the world, out of the rows' condition: no variable laid. -/
import Derived.Test.YtapalkipdmdceaaRows
import Derived.Test.YtapalkipdmdceaaScParse
import Derived.ProofKit
import Derived.LaidMore
import Derived.LaidHandle
import Derived.LaidLaws
import Derived.Lay
import Derived.OpenShut
import Derived.Stop.Joined
import Derived.Deep.DeepHandedRow
import Derived.ChangeMaps5
namespace Go.Proofs.Ytapalkipdmdceaa
open Go Go.RowKit

theorem ownKnobs : ownKnob Try.prog.godebug = none := by kernel_rfl
theorem maxLS_of {W : World} (h : W.ShapedOpen Try.prog) : MaxLS W := Go.Proofs.cell_of_shapedOpen_int (zero := #[.int .i64 0]) (t := 3) h (of_decide_eq_true (by kernel_rfl)) (by kernel_rfl) rfl (by kernel_rfl) (by kernel_rfl) Try.underlying3
noncomputable def laidWorldP (os : Os) : World := World.holding Try.prog os ⟨#[], #[], []⟩
theorem laidWorldP_os (os : Os) : (laidWorldP os).os = os := rfl
theorem laidWorldP_met (os : Os) (args : Array Value) : laidMetH Try.prog [] ((laidWorldP os).forCall (fun _ _ => 0) ⟨#[], args, []⟩).memory :=
  laidMetH_of_parts (laidMet_nil _ _) (by kernel_rfl)
end Go.Proofs.Ytapalkipdmdceaa
