/- The reference's last sums against the program's. -/
import Derived.Test.YtdgpphihjeffcaaDoorShaRefMath2
namespace Go.Proofs.YtdgpphihjeffcaaDoor
open Go Go.RowKit

/-- The reference's sums, behind k of them. -/
def outR (s r : List Int) : Nat → List Int
  | 0 => []
  | k + 1 => outR s r k ++ [(r.getD k 0 + s.getD k 0) % 4294967296]
@[simp] theorem length_outR (s r : List Int) : ∀ k, (outR s r k).length = k
  | 0 => rfl
  | k + 1 => by simp [outR, length_outR s r k]
theorem addU_take (s r : List Int) : ∀ k, k ≤ s.length → addU s r k = outR s r k ++ s.drop k
  | 0, _ => rfl
  | k + 1, h => by
    have ih := addU_take s r k (by omega)
    have hd : s.drop k = s.getD k 0 :: s.drop (k + 1) := by
      rw [List.drop_eq_getElem_cons (by omega : k < s.length)]
      simp [List.getD, show k < s.length by omega]
    have hg : (outR s r k ++ s.drop k).getD k 0 = s.getD k 0 := by
      rw [hd, List.getD_eq_getElem?_getD, List.getElem?_append_right (by rw [length_outR]; omega), length_outR, Nat.sub_self]; rfl
    rw [addU, ih, hg, List.set_append_right _ _ (by rw [length_outR]; omega), length_outR, Nat.sub_self, hd, outR]
    simp [Int.add_comm]
/-- THE SUM BEHIND A BLOCK, as the reference has it. -/
theorem mixL_ref (s b : List Int) (hs : s.length = 8) (hb : Bytes b) : mixL s b = outR s (rnds (wordsR b 64) s 64) 8 := by
  rw [mixL, sched_ref b hb, addU_take _ _ _ (by omega), List.drop_eq_nil_of_le (by omega), List.append_nil]
theorem rnds_congr (W V s : List Int) : ∀ k, (∀ i, i < k → W.getD i 0 = V.getD i 0) → rnds W s k = rnds V s k
  | 0, _ => rfl
  | k + 1, h => by rw [rnds, rnds, rnds_congr W V s k fun i hi => h i (by omega), h k (by omega)]
end Go.Proofs.YtdgpphihjeffcaaDoor
