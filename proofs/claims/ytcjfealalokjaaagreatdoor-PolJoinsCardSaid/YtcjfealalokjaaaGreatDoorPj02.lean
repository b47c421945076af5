/- LxMath: merged. -/
import Derived.Test.YtcjfealalokjaaaGreatDoorPa02
set_option linter.all false
namespace Go.Proofs.YtcjfealalokjaaaGreatDoor
open Go Go.RowKit
/-! ### Blanks and remarks -/
/-! ### Signs -/
/-! ### Within quotes -/
/-! ### The token ahead -/
theorem scanF_gap (f : Nat) (l : List Int) (p k : Nat) (acc : List TokM) (h : gapM false l = k + gapM false (l.drop k)) : scanF (f + 1) l p acc = scanF (f + 1) (l.drop k) (p + k) acc := by
  have e : ∀ m, (l.drop k).drop m = l.drop (k + m) := fun m => by rw [List.drop_drop]
  have hk := gapM_le false l
  have hl : (l.length ≤ gapM false l) ↔ ((l.drop k).length ≤ gapM false (l.drop k)) := by rw [List.length_drop]; omega
  conv => lhs; rw [scanF]
  conv => rhs; rw [scanF]
  simp only [e, ← h, ← Nat.add_assoc, hl]
  have e2 : p + k + gapM false (l.drop k) = p + gapM false l := by omega
  simp only [e2]
end Go.Proofs.YtcjfealalokjaaaGreatDoor
