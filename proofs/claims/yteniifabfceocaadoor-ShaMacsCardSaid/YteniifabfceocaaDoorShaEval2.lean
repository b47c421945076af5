/- One tag reckoned by the kernel. -/
import Derived.Test.YteniifabfceocaaDoorShaEval
import Derived.Test.YteniifabfceocaaDoorShaMac
namespace Go.Proofs.YteniifabfceocaaDoor
open Go Go.RowKit
def xorE (K : List Int) (c : Int) : Nat → List Int
  | 0 => K
  | j + 1 => fL (xorE K c j) fun L => L.set j (xb (L.getD j 0) c)
theorem xorE_eq (K : List Int) (c : Int) : ∀ j, xorE K c j = xorK K c j
  | 0 => rfl
  | j + 1 => by rw [xorE, fL_eq, xorE_eq K c j, ← xb_eq]; rfl
def macE (key b : List Int) : List Int := digestE (xorE (keyL key) 92 64 ++ fL (digestE (xorE (keyL key) 54 64 ++ b)) id)
theorem macE_eq (key b : List Int) : macE key b = macL key b := by
  simp only [macE, fL_eq, digestE_eq, xorE_eq, id]; rfl
set_option maxRecDepth 1000000 in
theorem mac_jefe : (macL [74, 101, 102, 101] [119, 104, 97, 116, 32, 100, 111, 32, 121, 97, 32, 119, 97, 110, 116, 32, 102, 111, 114, 32, 110, 111, 116, 104, 105, 110, 103, 63]).take 2 = [91, 220] := by
  rw [← macE_eq]; decide +kernel
end Go.Proofs.YteniifabfceocaaDoor
