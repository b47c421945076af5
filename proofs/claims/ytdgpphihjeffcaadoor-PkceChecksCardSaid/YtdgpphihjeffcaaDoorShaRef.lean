/- The walks of the reference's small functions: turn, words. -/
import Derived.Test.YtdgpphihjeffcaaDoorShaTabs
import Derived.Great.BuildSlice
namespace Go.Proofs.YtdgpphihjeffcaaDoor
open Go Go.RowKit

theorem or_comm32 (x y : Int) : bits .or .u32 x y = bits .or .u32 y x := by
  unfold bits
  simp only [BitVec.or_comm]
theorem refTurn_any (x : Int) (k : Nat) (w : World) (hx : 0 ≤ x) (hx2 : x < 4294967296) (hn : 1 ≤ k) (hn2 : k ≤ 31) :
    Calls Tryd.prog 49 #[.int .u32 x, .int .u64 (k : Int)] w fun e w' => e = .returned (.int .u32 (rotr x k)) ∧ w = w' := by
  go_enter Tryd.func49, Tryd.ntmps49
  go_wp2
  go_ret
  refine ⟨?_, rfl⟩
  rw [rotr, or_comm32]
  rfl

set_option maxRecDepth 100000 in
theorem refWords_any (w : World) :
    Calls Tryd.prog 48 #[] w fun e w' => ∃ g, e = .returned (.slice (some ⟨g, 0, none⟩) 64 64) ∧ w.heap.size ≤ g ∧ Blk w' g 52 (ints .u32 rootsL) ∧ w.grownBy w' none := by
  go_enter Tryd.func48, Tryd.ntmps48
  go_wp2_with (refine wpList_buildFlat rfl _ 52 64 _ rfl .u32 rootsL Tryd.underlying73 s33 (by kernel_rfl) rfl (by decide) (by decide) (by kernel_rfl) ?_; try go_frame)
  go_ret
  exact ⟨w.heap.size, rfl, Nat.le_refl _, heap_alloc_new w _, World.grownBy_alloc w _ none⟩
end Go.Proofs.YtdgpphihjeffcaaDoor
