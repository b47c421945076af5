/- The walks of spell and Put. -/
import Derived.Test.YtcjnhgcopdofhaaDoorUtfSmall
namespace Go.Proofs.YtcjnhgcopdofhaaDoor
open Go Go.RowKit

/-- A letter's bytes, with 0 behind them. -/
def spL (n : Int) : List Int := putL n ++ List.replicate (4 - (putL n).length) 0
theorem spL_one {n : Int} (h : 0 ≤ n) (h1 : n < 128) : spL n = [n, 0, 0, 0] := by unfold spL; rw [putL_one h h1]; rfl
theorem spL_two {n : Int} (h : 128 ≤ n) (h1 : n < 2048) : spL n = [192 + n / 64, 128 + n % 64, 0, 0] := by unfold spL; rw [putL_two h h1]; rfl
theorem spL_three {n : Int} (h : 2048 ≤ n) (h1 : n < 65536) (h2 : n < 55296 ∨ 57343 < n) : spL n = [224 + n / 4096, 128 + n / 64 % 64, 128 + n % 64, 0] := by unfold spL; rw [putL_three h h1 h2]; rfl
theorem spL_four {n : Int} (h : 65536 ≤ n) (h1 : n ≤ 1114111) : spL n = [240 + n / 262144, 128 + n / 4096 % 64, 128 + n / 64 % 64, 128 + n % 64] := by unfold spL; rw [putL_four h h1]; rfl
theorem spL_none {n : Int} (h : n < 0 ∨ 1114111 < n ∨ (55296 ≤ n ∧ n ≤ 57343)) : spL n = [0, 0, 0, 0] := by unfold spL; rw [putL_none h]; rfl

theorem or_0 (x : Int) (h : 0 ≤ x ∧ x < 256) : bits .or .i64 0 x = x := by
  have := or_above 0 x 8 h.1 (by omega) (by decide) (by omega)
  simpa using this
theorem or_192 (x : Int) (h : 0 ≤ x ∧ x < 64) : bits .or .i64 192 x = 192 + x := or_above 3 x 6 h.1 (by omega) (by decide) (by omega)
theorem or_224 (x : Int) (h : 0 ≤ x ∧ x < 32) : bits .or .i64 224 x = 224 + x := or_above 7 x 5 h.1 (by omega) (by decide) (by omega)
theorem or_240 (x : Int) (h : 0 ≤ x ∧ x < 16) : bits .or .i64 240 x = 240 + x := or_above 15 x 4 h.1 (by omega) (by decide) (by omega)
/-- A cell of the row of four. -/
abbrev fourB (a b c d : Int) : Array Value := #[.int .u8 a, .int .u8 b, .int .u8 c, .int .u8 d]
theorem sizeOf_is (n : Int) (k : Nat) (h : (putL n).length = k) (W : World) : Calls Tryd.prog 67 #[.int .i64 n] W fun e w' => e = .returned (.int .i64 (k : Int)) ∧ W = w' := by
  have := sizeOf_any n W
  rw [h] at this
  exact this

set_option maxHeartbeats 400000 in
theorem spell_none (n : Int) (w : World) (h : putL n = []) :
    Calls Tryd.prog 80 #[.int .i64 n] w fun e w' => e = .returned (.agg (fourB 0 0 0 0)) ∧ Below w.heap.size w w' := by
  have HS := Lib.hid (sizeOf_is n 0 (by rw [h]; rfl))
  clear h
  go_enter Tryd.func80, Tryd.ntmps80
  go_wp2_with (go_at_call 67; refine (HS.out _).mono ?_; rintro e w' ⟨rfl, rfl⟩)
  exact bodyPost_ret (v := .agg (fourB 0 0 0 0)) (by simp [results, Tryd.results80, go_sem]) rfl ⟨rfl, ((Below.refl _ _).alloc (Nat.le_refl _) _).alloc (by simp) _⟩
theorem ret_four {a b c d a' b' c' d' : Int} (h1 : a = a') (h2 : b = b') (h3 : c = c') (h4 : d = d') : Ending.returned (.agg (fourB a b c d)) = .returned (.agg (fourB a' b' c' d')) := by rw [h1, h2, h3, h4]
set_option maxHeartbeats 400000 in
theorem spell_one (n : Int) (w : World) (hm : Marks w) (h0 : 0 ≤ n) (h1 : n < 128) :
    Calls Tryd.prog 80 #[.int .i64 n] w fun e w' => e = .returned (.agg (fourB n 0 0 0)) ∧ Below w.heap.size w w' := by
  have HS := Lib.hid (sizeOf_is n 1 (by rw [putL_one h0 h1]; rfl))
  have m1 : w.cell? ⟨4, 1, none⟩ = some (.int .i64 0) := marks_cell hm 1 (by decide)
  have e1 := or_0 n (by omega)
  have hlt := hm.lt
  clear hm
  go_enter Tryd.func80, Tryd.ntmps80
  go_wp2_with (first | (go_at_call 67; refine (HS.out _).mono ?_; rintro e w' ⟨rfl, rfl⟩) | (go_at_call 81; refine (tail_any _ _ (by omega) (by omega)).mono ?_; rintro e w' ⟨rfl, rfl⟩))
  refine bodyPost_ret (v := .agg (fourB n 0 0 0)) (by simp [results, Tryd.results80, go_sem]) rfl ⟨?_, ((Below.refl _ _).alloc (Nat.le_refl _) _).alloc (by simp) _⟩
  exact ret_four (by omega) (by omega) (by omega) (by omega)
set_option maxHeartbeats 400000 in
theorem spell_two (n : Int) (w : World) (hm : Marks w) (h0 : 128 ≤ n) (h1 : n < 2048) :
    Calls Tryd.prog 80 #[.int .i64 n] w fun e w' => e = .returned (.agg (fourB (192 + n / 64) (128 + n % 64) 0 0)) ∧ Below w.heap.size w w' := by
  have HS := Lib.hid (sizeOf_is n 2 (by rw [putL_two h0 h1]; rfl))
  have m1 : w.cell? ⟨4, 2, none⟩ = some (.int .i64 192) := marks_cell hm 2 (by decide)
  have e1 := or_192 (n / 64) (by omega)
  have hlt := hm.lt
  clear hm
  go_enter Tryd.func80, Tryd.ntmps80
  go_wp2_with (first | (go_at_call 67; refine (HS.out _).mono ?_; rintro e w' ⟨rfl, rfl⟩) | (go_at_call 81; refine (tail_any _ _ (by omega) (by omega)).mono ?_; rintro e w' ⟨rfl, rfl⟩))
  refine bodyPost_ret (v := .agg (fourB (192 + n / 64) (128 + n % 64) 0 0)) (by simp [results, Tryd.results80, go_sem]) rfl ⟨?_, ((Below.refl _ _).alloc (Nat.le_refl _) _).alloc (by simp) _⟩
  exact ret_four (by omega) (by omega) (by omega) (by omega)
set_option maxHeartbeats 400000 in
theorem spell_three (n : Int) (w : World) (hm : Marks w) (h0 : 2048 ≤ n) (h1 : n < 65536) (h2 : n < 55296 ∨ 57343 < n) :
    Calls Tryd.prog 80 #[.int .i64 n] w fun e w' => e = .returned (.agg (fourB (224 + n / 4096) (128 + n / 64 % 64) (128 + n % 64) 0)) ∧ Below w.heap.size w w' := by
  have H2 := Lib.hid h2
  have HS := Lib.hid (sizeOf_is n 3 (by rw [putL_three h0 h1 h2]; rfl))
  have m1 : w.cell? ⟨4, 3, none⟩ = some (.int .i64 224) := marks_cell hm 3 (by decide)
  have e1 := or_224 (n / 64 / 64) (by omega)
  clear h2
  have hlt := hm.lt
  clear hm
  go_enter Tryd.func80, Tryd.ntmps80
  go_wp2_with (first | (go_at_call 67; refine (HS.out _).mono ?_; rintro e w' ⟨rfl, rfl⟩) | (go_at_call 81; refine (tail_any _ _ (by omega) (by omega)).mono ?_; rintro e w' ⟨rfl, rfl⟩))
  refine bodyPost_ret (v := .agg (fourB (224 + n / 64 / 64) (128 + n / 64 % 64) (128 + n % 64) 0)) (by simp [results, Tryd.results80, go_sem]) rfl ⟨?_, ((Below.refl _ _).alloc (Nat.le_refl _) _).alloc (by simp) _⟩
  exact ret_four (by omega) (by omega) (by omega) (by omega)
set_option maxHeartbeats 400000 in
theorem spell_four (n : Int) (w : World) (hm : Marks w) (h0 : 65536 ≤ n) (h1 : n ≤ 1114111) :
    Calls Tryd.prog 80 #[.int .i64 n] w fun e w' => e = .returned (.agg (fourB (240 + n / 262144) (128 + n / 4096 % 64) (128 + n / 64 % 64) (128 + n % 64))) ∧ Below w.heap.size w w' := by
  have HS := Lib.hid (sizeOf_is n 4 (by rw [putL_four h0 h1]; rfl))
  have m1 : w.cell? ⟨4, 4, none⟩ = some (.int .i64 240) := marks_cell hm 4 (by decide)
  have e1 := or_240 (n / 64 / 64 / 64) (by omega)
  have hlt := hm.lt
  clear hm
  go_enter Tryd.func80, Tryd.ntmps80
  go_wp2_with (first | (go_at_call 67; refine (HS.out _).mono ?_; rintro e w' ⟨rfl, rfl⟩) | (go_at_call 81; refine (tail_any _ _ (by omega) (by omega)).mono ?_; rintro e w' ⟨rfl, rfl⟩))
  refine bodyPost_ret (v := .agg (fourB (240 + n / 64 / 64 / 64) (128 + n / 64 / 64 % 64) (128 + n / 64 % 64) (128 + n % 64))) (by simp [results, Tryd.results80, go_sem]) rfl ⟨?_, ((Below.refl _ _).alloc (Nat.le_refl _) _).alloc (by simp) _⟩
  exact ret_four (by omega) (by omega) (by omega) (by omega)
theorem spell_any (n : Int) (w : World) (hm : Marks w) :
    Calls Tryd.prog 80 #[.int .i64 n] w fun e w' => e = .returned (.agg (ints .u8 (spL n)).toArray) ∧ Below w.heap.size w w' := by
  rcases putL_cases n with ⟨h, h'⟩ | ⟨h1, h2, h⟩ | ⟨h1, h2, h⟩ | ⟨h1, h2, h3, h⟩ | ⟨h1, h2, h⟩
  · rw [spL_none h']; exact spell_none n w h
  · rw [spL_one h1 h2]; exact spell_one n w hm h1 h2
  · rw [spL_two h1 h2]; exact spell_two n w hm h1 h2
  · rw [spL_three h1 h2 h3]; exact spell_three n w hm h1 h2 h3
  · rw [spL_four h1 h2]; exact spell_four n w hm h1 h2

/-! ### Put -/
theorem length_spL (n : Int) : (spL n).length = 4 := by
  have := putL_len n
  unfold spL
  rw [List.length_append, List.length_replicate]; omega
theorem spL_take (n : Int) : (spL n).take (putL n).length = putL n := by simp [spL]
set_option maxHeartbeats 400000 in
theorem put_any (n : Int) (w : World) (hm : Marks w) :
    Calls Tryd.prog 79 #[.int .i64 n] w fun e w' => e = .returned (.string (toS (putL n))) ∧ Below w.heap.size w w' := by
  have hlen := putL_len n
  have HSZ := Lib.hid (fun W : World => sizeOf_any n W)
  have HSP := Lib.hid (spell_any n w hm)
  obtain ⟨a, b, c, d, h4⟩ : ∃ a b c d, spL n = [a, b, c, d] := by
    have := length_spL n
    match h : spL n, this with
    | [a, b, c, d], _ => exact ⟨a, b, c, d, rfl⟩
  have hcv : ∀ W : World, (convert 62 9 (.slice (some ⟨W.heap.size, 0, none⟩) (putL n).length 4)).run Tryd.prog (W.alloc (.cells #[.int .u8 a, .int .u8 b, .int .u8 c, .int .u8 d] 130)) = .ok (.string (toS (putL n))) (W.alloc (.cells #[.int .u8 a, .int .u8 b, .int .u8 c, .int .u8 d] 130)) := fun W =>
    conv_str _ (putL n) _ 4 _ rfl (by
      have := (Lies.whole (w := W.alloc (.cells #[.int .u8 a, .int .u8 b, .int .u8 c, .int .u8 d] 130)) (b := W.heap.size) (t := 130) (xs := [a, b, c, d]) (heap_alloc_new W _)).take (putL n).length
      rw [← h4, spL_take] at this
      exact this)
  have hsl := fun (g : Nat) => run_sliceAt_to (P := Tryd.prog) 130 5 4 Tryd.underlying130 (by kernel_rfl) g 0 (putL n).length (by decide) hlen .i64
  obtain ⟨k, hk⟩ : ∃ k, k = (putL n).length := ⟨_, rfl⟩
  rw [← hk] at hcv hsl HSZ hlen
  obtain ⟨S, hS⟩ : ∃ S, S = toS (putL n) := ⟨_, rfl⟩
  rw [← hS] at hcv ⊢
  rw [h4] at HSP
  clear hk hS hm h4
  go_enter Tryd.func79, Tryd.ntmps79
  go_wp2_with (first | (go_at_call 67; refine (HSZ.out _).mono ?_; rintro e w' ⟨rfl, rfl⟩) | (go_at_call 80; refine HSP.out.mono ?_; rintro e w1 ⟨rfl, hb⟩; have HB := Lib.hid hb; clear hb; simp only [ints, List.map_cons, List.map_nil]))
  go_ret
  exact ⟨rfl, HB.out.alloc HB.out.size _⟩
end Go.Proofs.YtcjnhgcopdofhaaDoor
