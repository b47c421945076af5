/- The walks of the reference's Put, Next and Bad. -/
import Derived.Test.YtcjnhgcopdofhaaDoorUtfBegin
namespace Go.Proofs.YtcjnhgcopdofhaaDoor
open Go Go.RowKit

set_option maxHeartbeats 400000 in
theorem refPut_none (n : Int) (w : World) (h : n < 0 ∨ 1114111 < n ∨ (55296 ≤ n ∧ n ≤ 57343)) :
    Calls Tryd.prog 54 #[.int .i64 n] w fun e w' => e = .returned (.string (toS (putL n))) ∧ Below w.heap.size w w' := by
  have hS : toS (putL n) = ⟨#[]⟩ := by rw [putL_none h]; rfl
  rw [hS]
  clear hS
  rcases h with h | h | ⟨h, h'⟩
  all_goals
    go_enter Tryd.func54, Tryd.ntmps54
    go_wp2
    go_ret
    exact ⟨rfl, Below.refl _ _⟩
set_option maxHeartbeats 400000 in
theorem refPut_one (n : Int) (w : World) (h0 : 0 ≤ n) (h1 : n < 128) :
    Calls Tryd.prog 54 #[.int .i64 n] w fun e w' => e = .returned (.string (toS (putL n))) ∧ Below w.heap.size w w' := by
  have hp : putL n = [n] := putL_one h0 h1
  have hcv : ∀ W : World, (convert 62 9 (.slice (some ⟨W.heap.size, 0, none⟩) 1 1)).run Tryd.prog (W.alloc (.cells #[.int .u8 (n)] 5)) = .ok (.string (toS [n])) (W.alloc (.cells #[.int .u8 (n)] 5)) := fun W =>
    conv_str _ [n] 1 1 _ rfl (Lies.lit W _ _ _)
  rw [hp]
  obtain ⟨S, hS⟩ : ∃ S, S = toS [n] := ⟨_, rfl⟩
  rw [← hS] at hcv ⊢
  clear hS hp
  go_enter Tryd.func54, Tryd.ntmps54
  go_wp2
  go_ret
  exact ⟨rfl, belowAlloc _ _⟩
set_option maxHeartbeats 400000 in
theorem refPut_two (n : Int) (w : World) (h0 : 128 ≤ n) (h1 : n < 2048) :
    Calls Tryd.prog 54 #[.int .i64 n] w fun e w' => e = .returned (.string (toS (putL n))) ∧ Below w.heap.size w w' := by
  have hp : putL n = [192 + n / 64, 128 + n % 64] := putL_two h0 h1
  have hcv : ∀ W : World, (convert 62 9 (.slice (some ⟨W.heap.size, 0, none⟩) 2 2)).run Tryd.prog (W.alloc (.cells #[.int .u8 (192 + n / 64), .int .u8 (128 + n % 64)] 5)) = .ok (.string (toS [192 + n / 64, 128 + n % 64])) (W.alloc (.cells #[.int .u8 (192 + n / 64), .int .u8 (128 + n % 64)] 5)) := fun W =>
    conv_str _ [192 + n / 64, 128 + n % 64] 2 2 _ rfl (Lies.lit W _ _ _)
  rw [hp]
  obtain ⟨S, hS⟩ : ∃ S, S = toS [192 + n / 64, 128 + n % 64] := ⟨_, rfl⟩
  rw [← hS] at hcv ⊢
  clear hS hp
  go_enter Tryd.func54, Tryd.ntmps54
  go_wp2
  go_ret
  exact ⟨rfl, belowAlloc _ _⟩
set_option maxHeartbeats 400000 in
theorem refPut_three (n : Int) (w : World) (h0 : 2048 ≤ n) (h1 : n < 65536) (h2 : n < 55296) :
    Calls Tryd.prog 54 #[.int .i64 n] w fun e w' => e = .returned (.string (toS (putL n))) ∧ Below w.heap.size w w' := by
  have hp : putL n = [224 + n / 4096, 128 + n / 64 % 64, 128 + n % 64] := putL_three h0 h1 (by omega)
  have hcv : ∀ W : World, (convert 62 9 (.slice (some ⟨W.heap.size, 0, none⟩) 3 3)).run Tryd.prog (W.alloc (.cells #[.int .u8 (224 + n / 4096), .int .u8 (128 + n / 64 % 64), .int .u8 (128 + n % 64)] 5)) = .ok (.string (toS [224 + n / 4096, 128 + n / 64 % 64, 128 + n % 64])) (W.alloc (.cells #[.int .u8 (224 + n / 4096), .int .u8 (128 + n / 64 % 64), .int .u8 (128 + n % 64)] 5)) := fun W =>
    conv_str _ [224 + n / 4096, 128 + n / 64 % 64, 128 + n % 64] 3 3 _ rfl (Lies.lit W _ _ _)
  rw [hp]
  obtain ⟨S, hS⟩ : ∃ S, S = toS [224 + n / 4096, 128 + n / 64 % 64, 128 + n % 64] := ⟨_, rfl⟩
  rw [← hS] at hcv ⊢
  clear hS hp
  go_enter Tryd.func54, Tryd.ntmps54
  go_wp2
  go_ret
  exact ⟨rfl, belowAlloc _ _⟩
set_option maxHeartbeats 400000 in
theorem refPut_three2 (n : Int) (w : World) (h0 : 2048 ≤ n) (h1 : n < 65536) (h2 : 57343 < n) :
    Calls Tryd.prog 54 #[.int .i64 n] w fun e w' => e = .returned (.string (toS (putL n))) ∧ Below w.heap.size w w' := by
  have hp : putL n = [224 + n / 4096, 128 + n / 64 % 64, 128 + n % 64] := putL_three h0 h1 (by omega)
  have hcv : ∀ W : World, (convert 62 9 (.slice (some ⟨W.heap.size, 0, none⟩) 3 3)).run Tryd.prog (W.alloc (.cells #[.int .u8 (224 + n / 4096), .int .u8 (128 + n / 64 % 64), .int .u8 (128 + n % 64)] 5)) = .ok (.string (toS [224 + n / 4096, 128 + n / 64 % 64, 128 + n % 64])) (W.alloc (.cells #[.int .u8 (224 + n / 4096), .int .u8 (128 + n / 64 % 64), .int .u8 (128 + n % 64)] 5)) := fun W =>
    conv_str _ [224 + n / 4096, 128 + n / 64 % 64, 128 + n % 64] 3 3 _ rfl (Lies.lit W _ _ _)
  rw [hp]
  obtain ⟨S, hS⟩ : ∃ S, S = toS [224 + n / 4096, 128 + n / 64 % 64, 128 + n % 64] := ⟨_, rfl⟩
  rw [← hS] at hcv ⊢
  clear hS hp
  go_enter Tryd.func54, Tryd.ntmps54
  go_wp2
  go_ret
  exact ⟨rfl, belowAlloc _ _⟩
set_option maxHeartbeats 400000 in
theorem refPut_four (n : Int) (w : World) (h0 : 65536 ≤ n) (h1 : n ≤ 1114111) :
    Calls Tryd.prog 54 #[.int .i64 n] w fun e w' => e = .returned (.string (toS (putL n))) ∧ Below w.heap.size w w' := by
  have hp : putL n = [240 + n / 262144, 128 + n / 4096 % 64, 128 + n / 64 % 64, 128 + n % 64] := putL_four h0 h1
  have hcv : ∀ W : World, (convert 62 9 (.slice (some ⟨W.heap.size, 0, none⟩) 4 4)).run Tryd.prog (W.alloc (.cells #[.int .u8 (240 + n / 262144), .int .u8 (128 + n / 4096 % 64), .int .u8 (128 + n / 64 % 64), .int .u8 (128 + n % 64)] 5)) = .ok (.string (toS [240 + n / 262144, 128 + n / 4096 % 64, 128 + n / 64 % 64, 128 + n % 64])) (W.alloc (.cells #[.int .u8 (240 + n / 262144), .int .u8 (128 + n / 4096 % 64), .int .u8 (128 + n / 64 % 64), .int .u8 (128 + n % 64)] 5)) := fun W =>
    conv_str _ [240 + n / 262144, 128 + n / 4096 % 64, 128 + n / 64 % 64, 128 + n % 64] 4 4 _ rfl (Lies.lit W _ _ _)
  rw [hp]
  obtain ⟨S, hS⟩ : ∃ S, S = toS [240 + n / 262144, 128 + n / 4096 % 64, 128 + n / 64 % 64, 128 + n % 64] := ⟨_, rfl⟩
  rw [← hS] at hcv ⊢
  clear hS hp
  go_enter Tryd.func54, Tryd.ntmps54
  go_wp2
  go_ret
  exact ⟨rfl, belowAlloc _ _⟩
theorem refPut_any (n : Int) (w : World) :
    Calls Tryd.prog 54 #[.int .i64 n] w fun e w' => e = .returned (.string (toS (putL n))) ∧ Below w.heap.size w w' := by
  rcases putL_cases n with ⟨h, h'⟩ | ⟨h1, h2, h⟩ | ⟨h1, h2, h⟩ | ⟨h1, h2, h3, h⟩ | ⟨h1, h2, h⟩
  · exact refPut_none n w h'
  · exact refPut_one n w h1 h2
  · exact refPut_two n w h1 h2
  · rcases h3 with h3 | h3
    · exact refPut_three n w h1 h2 h3
    · exact refPut_three2 n w h1 h2 h3
  · exact refPut_four n w h1 h2
end Go.Proofs.YtcjnhgcopdofhaaDoor
