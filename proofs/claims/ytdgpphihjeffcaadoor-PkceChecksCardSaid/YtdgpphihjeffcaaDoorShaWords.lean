/- The walks of package sha's functions on words: turned, turns. -/
import Derived.Test.YtdgpphihjeffcaaDoorProg
import Derived.Test.YtdgpphihjeffcaaDoorShaMath
import Derived.WalkLawsBesides
import Derived.WalkSpells
import Derived.Handy
namespace Go.Proofs.YtdgpphihjeffcaaDoor
open Go Go.RowKit

theorem and31 : ∀ k : Fin 31, bits BinOp.and IntKind.u64 (IntKind.u64.wrap (-(((k.val + 1 : Nat)) : Int))) 31 = 32 - (((k.val + 1 : Nat)) : Int) := by decide +kernel
theorem rot_any (x : Int) (k : Nat) (w : World) (hx : 0 ≤ x) (hx2 : x < 4294967296) (hn : 1 ≤ k) (hn2 : k ≤ 31) :
    Calls Tryd.prog 66 #[.int .u32 x, .int .i64 (-(k : Int))] w fun e w' => e = .returned (.int .u32 (rotr x k)) ∧ w = w' := by
  have hs : bits BinOp.and IntKind.u64 (IntKind.u64.wrap (-(k : Int))) 31 = 32 - (k : Int) := by
    have := and31 ⟨k - 1, by omega⟩
    have e : k - 1 + 1 = k := by omega
    simp only [e] at this
    exact this
  go_enter Tryd.func66, Tryd.ntmps66
  go_wp2
  go_ret
  refine ⟨?_, rfl⟩
  have e : 32 - (32 - k) = k := by omega
  rw [e]
  rfl
theorem turned_any (x : Int) (k : Nat) (w : World) (hx : 0 ≤ x) (hx2 : x < 4294967296) (hn : 1 ≤ k) (hn2 : k ≤ 31) :
    Calls Tryd.prog 65 #[.int .u32 x, .int .i64 (k : Int)] w fun e w' => e = .returned (.int .u32 (rotr x k)) ∧ w = w' := by
  go_enter Tryd.func65, Tryd.ntmps65
  go_wp2_with (go_at_call 66; refine (rot_any _ _ _ (by omega) (by omega) hn hn2).mono ?_; rintro e w' ⟨rfl, rfl⟩)
  go_ret
  exact ⟨rfl, rfl⟩
theorem turns_any (x : Int) (i j k : Nat) (w : World) (hx : 0 ≤ x) (hx2 : x < 4294967296) (hi : 1 ≤ i) (hi2 : i ≤ 31) (hj : 1 ≤ j) (hj2 : j ≤ 31) (hn : 1 ≤ k) (hn2 : k ≤ 31) :
    Calls Tryd.prog 64 #[.int .u32 x, .int .i64 (i : Int), .int .i64 (j : Int), .int .i64 (k : Int)] w fun e w' => e = .returned (.int .u32 (turns3 x i j k)) ∧ w = w' := by
  have c := fun (n : Nat) (h1 : 1 ≤ n) (h2 : n ≤ 31) (w : World) => turned_any x n w hx hx2 h1 h2
  go_enter Tryd.func64, Tryd.ntmps64
  go_wp2_with (go_at_call 65; refine (c _ (by omega) (by omega) _).mono ?_; rintro e w' ⟨rfl, rfl⟩)
  go_ret
  exact ⟨rfl, rfl⟩
end Go.Proofs.YtdgpphihjeffcaaDoor
