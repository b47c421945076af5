/- JsonPlain: merged. -/
import Derived.WalkLawsBesides
import Derived.WalkSpells
import Derived.Handy
import Derived.RegionTactic
import Derived.LoopTactic
import Derived.BigQuiet
import Derived.Deep.QuietTactic
import Derived.Deep.RegionHeld3
import Derived.StillTailTactics
import Derived.IntWalk
import Derived.Test.YtblheibknpphkaaGreatDoorBa01
set_option linter.all false
namespace Go.Proofs.YtblheibknpphkaaGreatDoor
open Go Go.RowKit
theorem conv_lit (x : Int) (W : World) : (convert 31 9 (.slice (some ⟨W.heap.size, 0, none⟩) 1 1)).run Tryz.prog (W.alloc (.cells #[.int .u8 x] 5)) = .ok (.string (toS [x])) (W.alloc (.cells #[.int .u8 x] 5)) :=
  conv_str _ [x] 1 1 _ rfl (Lies.lit W _ _ _)
end Go.Proofs.YtblheibknpphkaaGreatDoor
