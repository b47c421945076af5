/- UtfSmall, UtfPut, UtfBegin, DecPart, LxSign, JsonLead, DecReckon: merged. -/
import Derived.WalkLawsBesides
import Derived.WalkSpells
import Derived.Handy
import Derived.RegionTactic
import Derived.StillTailTactics
import Derived.LoopTactic
import Derived.IntWalk
import Derived.Test.YtcjfealalokjaaaGreatDoorPa02
set_option linter.all false
namespace Go.Proofs.YtcjfealalokjaaaGreatDoor
open Go Go.RowKit
/-- The table of first marks. -/
abbrev Marks (w : World) : Prop := Blk w 2 225 (ints .i64 [0, 0, 192, 224, 240])
theorem Marks.below {w w' : World} (h : Marks w) (hb : Below w.heap.size w w') : Marks w' := Blk.below h hb h.lt
theorem marks_cell {w : World} (h : Marks w) (k : Nat) (hk : k < 5) : w.cell? ⟨2, k, none⟩ = some (.int .i64 (markL k)) := by
  rw [Blk.cell h]
  match k, hk with
  | 0, _ => rfl
  | 1, _ => rfl
  | 2, _ => rfl
  | 3, _ => rfl
  | 4, _ => rfl
/-! ### sizeOf -/
theorem size_facts (n : Int) : ∃ k : Nat, k = (putL n).length ∧ k ≤ 4 ∧ (n < 0 → k = 0) ∧ (1114112 ≤ n → k = 0) ∧ (55296 ≤ n → n < 57344 → k = 0) ∧ (0 ≤ n → n < 128 → k = 1) ∧ (128 ≤ n → n < 2048 → k = 2) ∧ (2048 ≤ n → n < 55296 → k = 3) ∧ (57344 ≤ n → n < 65536 → k = 3) ∧ (65536 ≤ n → n < 1114112 → k = 4) := by
  refine ⟨_, rfl, putL_len n, ?_⟩
  rcases putL_cases n with ⟨h, h'⟩ | ⟨h1, h2, h⟩ | ⟨h1, h2, h⟩ | ⟨h1, h2, h3, h⟩ | ⟨h1, h2, h⟩ <;> rw [h] <;> simp only [List.length_cons, List.length_nil, Nat.zero_add, Nat.reduceAdd] <;> refine ⟨?_, ?_, ?_, ?_, ?_, ?_, ?_, ?_⟩ <;> intros <;> first | trivial | omega
set_option maxHeartbeats 400000 in
theorem sizeOf_any (n : Int) (w : World) :
    Calls Tryz.prog 176 #[.int .i64 n] w fun e w' => e = .returned (.int .i64 (((putL n).length : Nat) : Int)) ∧ w = w' := by
  obtain ⟨k, hk, hf⟩ := size_facts n
  rw [← hk]
  have HF := Lib.hid hf
  clear hk hf
  go_enter Tryz.func176, Tryz.ntmps176
  go_wp2
  all_goals go_ret
  all_goals exact ⟨ret_int (by have := HF.out; omega), rfl⟩
/-! ### tail -/
theorem or_128 (n : Int) (h : 0 ≤ n ∧ n < 64) : bits .or .i64 128 n = 128 + n := or_above 1 n 7 h.1 (by omega) (by decide) (by omega)
theorem tail_any (n : Int) (w : World) (h0 : 0 ≤ n) (h1 : n ≤ 9223372036854775807) :
    Calls Tryz.prog 207 #[.int .i64 n] w fun e w' => e = .returned (.int .u8 (128 + n % 64)) ∧ w = w' := by
  have e1 := and_mask_i64 n 6 (by decide) h0 (by omega)
  replace e1 : bits .and .i64 n 63 = n % 64 := e1
  have e2 := or_128 (n % 64) (by omega)
  go_enter Tryz.func207, Tryz.ntmps207
  go_wp2
  go_ret
  exact ⟨ret_int (by omega), rfl⟩
/-! ### wanted -/
set_option maxHeartbeats 400000 in
theorem wanted_any (c : Int) (w : World) (hm : Marks w) (h0 : 0 ≤ c) (h1 : c ≤ 255) :
    Calls Tryz.prog 206 #[.int .u8 c] w fun e w' => e = .returned (.int .i64 (((wantL c - 1 : Nat) : Int))) ∧ w = w' := by
  have m4 : w.cell? ⟨2, 4, none⟩ = some (.int .i64 240) := marks_cell hm 4 (by decide)
  have m3 : w.cell? ⟨2, 3, none⟩ = some (.int .i64 224) := marks_cell hm 3 (by decide)
  have m2 : w.cell? ⟨2, 2, none⟩ = some (.int .i64 192) := marks_cell hm 2 (by decide)
  have hf : (240 ≤ c → wantL c = 4) ∧ (224 ≤ c → c < 240 → wantL c = 3) ∧ (192 ≤ c → c < 224 → wantL c = 2) ∧ (c < 192 → wantL c = 1) := by
    unfold wantL
    refine ⟨fun h => if_pos h, fun h h' => ?_, fun h h' => ?_, fun h => ?_⟩
    · rw [if_neg (by omega), if_pos h]
    · rw [if_neg (by omega), if_neg (by omega), if_pos h]
    · rw [if_neg (by omega), if_neg (by omega), if_neg (by omega)]
  obtain ⟨k, hk⟩ : ∃ k, k = wantL c := ⟨_, rfl⟩
  rw [← hk] at hf ⊢
  have HF := Lib.hid hf
  clear hk hf hm
  go_enter Tryz.func206, Tryz.ntmps206
  go_wp2
  all_goals go_ret
  all_goals exact ⟨ret_int (by have := HF.out; omega), rfl⟩
end Go.Proofs.YtcjfealalokjaaaGreatDoor
namespace Go.Proofs.YtcjfealalokjaaaGreatDoor
open Go Go.RowKit
/-- A letter's bytes, with 0 behind them. -/
def spL (n : Int) : List Int := putL n ++ List.replicate (4 - (putL n).length) 0
theorem spL_one {n : Int} (h : 0 ≤ n) (h1 : n < 128) : spL n = [n, 0, 0, 0] := by unfold spL; rw [putL_one h h1]; rfl
theorem spL_two {n : Int} (h : 128 ≤ n) (h1 : n < 2048) : spL n = [192 + n / 64, 128 + n % 64, 0, 0] := by unfold spL; rw [putL_two h h1]; rfl
theorem spL_three {n : Int} (h : 2048 ≤ n) (h1 : n < 65536) (h2 : n < 55296 ∨ 57343 < n) : spL n = [224 + n / 4096, 128 + n / 64 % 64, 128 + n % 64, 0] := by unfold spL; rw [putL_three h h1 h2]; rfl
theorem spL_four {n : Int} (h : 65536 ≤ n) (h1 : n ≤ 1114111) : spL n = [240 + n / 262144, 128 + n / 4096 % 64, 128 + n / 64 % 64, 128 + n % 64] := by unfold spL; rw [putL_four h h1]; rfl
theorem spL_none {n : Int} (h : n < 0 ∨ 1114111 < n ∨ (55296 ≤ n ∧ n ≤ 57343)) : spL n = [0, 0, 0, 0] := by unfold spL; rw [putL_none h]; rfl
theorem or_0 (x : Int) (h : 0 ≤ x ∧ x < 256) : bits .or .i64 0 x = x := by
  have := or_above 0 x 8 h.1 (by omega) (by decide) (by omega)
  simpa using this
theorem or_192 (x : Int) (h : 0 ≤ x ∧ x < 64) : bits .or .i64 192 x = 192 + x := or_above 3 x 6 h.1 (by omega) (by decide) (by omega)
theorem or_224 (x : Int) (h : 0 ≤ x ∧ x < 32) : bits .or .i64 224 x = 224 + x := or_above 7 x 5 h.1 (by omega) (by decide) (by omega)
theorem or_240 (x : Int) (h : 0 ≤ x ∧ x < 16) : bits .or .i64 240 x = 240 + x := or_above 15 x 4 h.1 (by omega) (by decide) (by omega)
/-- A cell of the row of four. -/
abbrev fourB (a b c d : Int) : Array Value := #[.int .u8 a, .int .u8 b, .int .u8 c, .int .u8 d]
theorem sizeOf_is (n : Int) (k : Nat) (h : (putL n).length = k) (W : World) : Calls Tryz.prog 176 #[.int .i64 n] W fun e w' => e = .returned (.int .i64 (k : Int)) ∧ W = w' := by
  have := sizeOf_any n W
  rw [h] at this
  exact this
set_option maxHeartbeats 400000 in
theorem spell_none (n : Int) (w : World) (h : putL n = []) :
    Calls Tryz.prog 185 #[.int .i64 n] w fun e w' => e = .returned (.agg (fourB 0 0 0 0)) ∧ Below w.heap.size w w' := by
  have HS := Lib.hid (sizeOf_is n 0 (by rw [h]; rfl))
  clear h
  go_enter Tryz.func185, Tryz.ntmps185
  go_wp2_with (go_at_call 176; refine (HS.out _).mono ?_; rintro e w' ⟨rfl, rfl⟩)
  exact bodyPost_ret (v := .agg (fourB 0 0 0 0)) (by simp [results, Tryz.results185, go_sem]) rfl ⟨rfl, ((Below.refl _ _).alloc (Nat.le_refl _) _).alloc (by simp) _⟩
theorem heap_ne {w : World} {g : Nat} (h : g < w.heap.size) : ¬ w.heap = #[] := fun e => by rw [e] at h; simp at h
theorem ret_four {a b c d a' b' c' d' : Int} (h1 : a = a') (h2 : b = b') (h3 : c = c') (h4 : d = d') : Ending.returned (.agg (fourB a b c d)) = .returned (.agg (fourB a' b' c' d')) := by rw [h1, h2, h3, h4]
set_option maxHeartbeats 400000 in
theorem spell_one (n : Int) (w : World) (hm : Marks w) (h0 : 0 ≤ n) (h1 : n < 128) :
    Calls Tryz.prog 185 #[.int .i64 n] w fun e w' => e = .returned (.agg (fourB n 0 0 0)) ∧ Below w.heap.size w w' := by
  have HS := Lib.hid (sizeOf_is n 1 (by rw [putL_one h0 h1]; rfl))
  have m1 : w.cell? ⟨2, 1, none⟩ = some (.int .i64 0) := marks_cell hm 1 (by decide)
  have e1 := or_0 n (by omega)
  have hlt := hm.lt
  have hz0 := heap_ne hlt
  have hz1 : 0 < w.heap.size := by omega
  clear hm
  go_enter Tryz.func185, Tryz.ntmps185
  go_wp2_with (first | (go_at_call 176; refine (HS.out _).mono ?_; rintro e w' ⟨rfl, rfl⟩) | (go_at_call 207; refine (tail_any _ _ (by omega) (by omega)).mono ?_; rintro e w' ⟨rfl, rfl⟩))
  refine bodyPost_ret (v := .agg (fourB n 0 0 0)) (by simp [results, Tryz.results185, go_sem]) rfl ⟨?_, ((Below.refl _ _).alloc (Nat.le_refl _) _).alloc (by simp) _⟩
  exact ret_four (by omega) (by omega) (by omega) (by omega)
set_option maxHeartbeats 400000 in
theorem spell_two (n : Int) (w : World) (hm : Marks w) (h0 : 128 ≤ n) (h1 : n < 2048) :
    Calls Tryz.prog 185 #[.int .i64 n] w fun e w' => e = .returned (.agg (fourB (192 + n / 64) (128 + n % 64) 0 0)) ∧ Below w.heap.size w w' := by
  have HS := Lib.hid (sizeOf_is n 2 (by rw [putL_two h0 h1]; rfl))
  have m1 : w.cell? ⟨2, 2, none⟩ = some (.int .i64 192) := marks_cell hm 2 (by decide)
  have e1 := or_192 (n / 64) (by omega)
  have hlt := hm.lt
  have hz0 := heap_ne hlt
  have hz1 : 0 < w.heap.size := by omega
  clear hm
  go_enter Tryz.func185, Tryz.ntmps185
  go_wp2_with (first | (go_at_call 176; refine (HS.out _).mono ?_; rintro e w' ⟨rfl, rfl⟩) | (go_at_call 207; refine (tail_any _ _ (by omega) (by omega)).mono ?_; rintro e w' ⟨rfl, rfl⟩))
  refine bodyPost_ret (v := .agg (fourB (192 + n / 64) (128 + n % 64) 0 0)) (by simp [results, Tryz.results185, go_sem]) rfl ⟨?_, ((Below.refl _ _).alloc (Nat.le_refl _) _).alloc (by simp) _⟩
  exact ret_four (by omega) (by omega) (by omega) (by omega)
set_option maxHeartbeats 400000 in
theorem spell_three (n : Int) (w : World) (hm : Marks w) (h0 : 2048 ≤ n) (h1 : n < 65536) (h2 : n < 55296 ∨ 57343 < n) :
    Calls Tryz.prog 185 #[.int .i64 n] w fun e w' => e = .returned (.agg (fourB (224 + n / 4096) (128 + n / 64 % 64) (128 + n % 64) 0)) ∧ Below w.heap.size w w' := by
  have H2 := Lib.hid h2
  have HS := Lib.hid (sizeOf_is n 3 (by rw [putL_three h0 h1 h2]; rfl))
  have m1 : w.cell? ⟨2, 3, none⟩ = some (.int .i64 224) := marks_cell hm 3 (by decide)
  have e1 := or_224 (n / 64 / 64) (by omega)
  clear h2
  have hlt := hm.lt
  have hz0 := heap_ne hlt
  have hz1 : 0 < w.heap.size := by omega
  clear hm
  go_enter Tryz.func185, Tryz.ntmps185
  go_wp2_with (first | (go_at_call 176; refine (HS.out _).mono ?_; rintro e w' ⟨rfl, rfl⟩) | (go_at_call 207; refine (tail_any _ _ (by omega) (by omega)).mono ?_; rintro e w' ⟨rfl, rfl⟩))
  refine bodyPost_ret (v := .agg (fourB (224 + n / 64 / 64) (128 + n / 64 % 64) (128 + n % 64) 0)) (by simp [results, Tryz.results185, go_sem]) rfl ⟨?_, ((Below.refl _ _).alloc (Nat.le_refl _) _).alloc (by simp) _⟩
  exact ret_four (by omega) (by omega) (by omega) (by omega)
set_option maxHeartbeats 400000 in
theorem spell_four (n : Int) (w : World) (hm : Marks w) (h0 : 65536 ≤ n) (h1 : n ≤ 1114111) :
    Calls Tryz.prog 185 #[.int .i64 n] w fun e w' => e = .returned (.agg (fourB (240 + n / 262144) (128 + n / 4096 % 64) (128 + n / 64 % 64) (128 + n % 64))) ∧ Below w.heap.size w w' := by
  have HS := Lib.hid (sizeOf_is n 4 (by rw [putL_four h0 h1]; rfl))
  have m1 : w.cell? ⟨2, 4, none⟩ = some (.int .i64 240) := marks_cell hm 4 (by decide)
  have e1 := or_240 (n / 64 / 64 / 64) (by omega)
  have hlt := hm.lt
  have hz0 := heap_ne hlt
  have hz1 : 0 < w.heap.size := by omega
  clear hm
  go_enter Tryz.func185, Tryz.ntmps185
  go_wp2_with (first | (go_at_call 176; refine (HS.out _).mono ?_; rintro e w' ⟨rfl, rfl⟩) | (go_at_call 207; refine (tail_any _ _ (by omega) (by omega)).mono ?_; rintro e w' ⟨rfl, rfl⟩))
  refine bodyPost_ret (v := .agg (fourB (240 + n / 64 / 64 / 64) (128 + n / 64 / 64 % 64) (128 + n / 64 % 64) (128 + n % 64))) (by simp [results, Tryz.results185, go_sem]) rfl ⟨?_, ((Below.refl _ _).alloc (Nat.le_refl _) _).alloc (by simp) _⟩
  exact ret_four (by omega) (by omega) (by omega) (by omega)
theorem spell_any (n : Int) (w : World) (hm : Marks w) :
    Calls Tryz.prog 185 #[.int .i64 n] w fun e w' => e = .returned (.agg (ints .u8 (spL n)).toArray) ∧ Below w.heap.size w w' := by
  rcases putL_cases n with ⟨h, h'⟩ | ⟨h1, h2, h⟩ | ⟨h1, h2, h⟩ | ⟨h1, h2, h3, h⟩ | ⟨h1, h2, h⟩
  · rw [spL_none h']; exact spell_none n w h
  · rw [spL_one h1 h2]; exact spell_one n w hm h1 h2
  · rw [spL_two h1 h2]; exact spell_two n w hm h1 h2
  · rw [spL_three h1 h2 h3]; exact spell_three n w hm h1 h2 h3
  · rw [spL_four h1 h2]; exact spell_four n w hm h1 h2
/-! ### Put -/
theorem length_spL (n : Int) : (spL n).length = 4 := by
  have := putL_len n
  unfold spL
  rw [List.length_append, List.length_replicate]; omega
theorem spL_take (n : Int) : (spL n).take (putL n).length = putL n := by simp [spL]
set_option maxHeartbeats 400000 in
theorem put_any (n : Int) (w : World) (hm : Marks w) :
    Calls Tryz.prog 166 #[.int .i64 n] w fun e w' => e = .returned (.string (toS (putL n))) ∧ Below w.heap.size w w' := by
  have hlen := putL_len n
  have HSZ := Lib.hid (fun W : World => sizeOf_any n W)
  have HSP := Lib.hid (spell_any n w hm)
  obtain ⟨a, b, c, d, h4⟩ : ∃ a b c d, spL n = [a, b, c, d] := by
    have := length_spL n
    match h : spL n, this with
    | [a, b, c, d], _ => exact ⟨a, b, c, d, rfl⟩
  have hcv : ∀ W : World, (convert 73 9 (.slice (some ⟨W.heap.size, 0, none⟩) (putL n).length 4)).run Tryz.prog (W.alloc (.cells #[.int .u8 a, .int .u8 b, .int .u8 c, .int .u8 d] 206)) = .ok (.string (toS (putL n))) (W.alloc (.cells #[.int .u8 a, .int .u8 b, .int .u8 c, .int .u8 d] 206)) := fun W =>
    conv_str _ (putL n) _ 4 _ rfl (by
      have := (Lies.whole (w := W.alloc (.cells #[.int .u8 a, .int .u8 b, .int .u8 c, .int .u8 d] 206)) (b := W.heap.size) (t := 206) (xs := [a, b, c, d]) (heap_alloc_new W _)).take (putL n).length
      rw [← h4, spL_take] at this
      exact this)
  have hsl := fun (g : Nat) => run_sliceAt_to (P := Tryz.prog) 206 5 4 Tryz.underlying206 (by kernel_rfl) g 0 (putL n).length (by decide) hlen .i64
  obtain ⟨k, hk⟩ : ∃ k, k = (putL n).length := ⟨_, rfl⟩
  rw [← hk] at hcv hsl HSZ hlen
  obtain ⟨S, hS⟩ : ∃ S, S = toS (putL n) := ⟨_, rfl⟩
  rw [← hS] at hcv ⊢
  rw [h4] at HSP
  clear hk hS hm h4
  go_enter Tryz.func166, Tryz.ntmps166
  go_wp2_with (first | (go_at_call 176; refine (HSZ.out _).mono ?_; rintro e w' ⟨rfl, rfl⟩) | (go_at_call 185; refine HSP.out.mono ?_; rintro e w1 ⟨rfl, hb⟩; have HB := Lib.hid hb; clear hb; simp only [ints, List.map_cons, List.map_nil]))
  go_ret
  exact ⟨rfl, HB.out.alloc HB.out.size _⟩
end Go.Proofs.YtcjfealalokjaaaGreatDoor
namespace Go.Proofs.YtcjfealalokjaaaGreatDoor
open Go Go.RowKit
theorem accL_bd (c0 : Int) (l : List Int) (h : 0 ≤ c0 ∧ c0 ≤ 255) : ∀ i, 0 ≤ accL c0 l i ∧ accL c0 l i < 256 * 64 ^ i
  | 0 => by show 0 ≤ c0 ∧ c0 < 256 * 64 ^ 0; omega
  | i + 1 => by
    have := accL_bd c0 l h i
    rw [accL, Int.pow_succ]
    omega
theorem marksub_bd (c : Int) (h : 0 ≤ c ∧ c ≤ 255) : 0 ≤ c - markL (wantL c) ∧ c - markL (wantL c) ≤ 255 := by
  unfold wantL
  split
  · show 0 ≤ c - 240 ∧ _ ≤ _; unfold markL; simp; omega
  · split
    · show 0 ≤ c - 224 ∧ _ ≤ _; unfold markL; simp; omega
    · split
      · show 0 ≤ c - 192 ∧ _ ≤ _; unfold markL; simp; omega
      · show 0 ≤ c - 0 ∧ _ ≤ _; unfold markL; simp; omega
theorem begin_empty (w : World) :
    Calls Tryz.prog 184 #[.string ⟨#[]⟩] w fun e w' => e = .returned (.tuple #[.int .i64 (-1), .int .i64 0]) ∧ Below w.heap.size w w' := by
  go_enter Tryz.func184, Tryz.ntmps184
  go_wp2
  go_ret2
  exact ⟨rfl, Below.refl _ _⟩
theorem notEmpty {s : ByteArray} (h : 0 < s.size) : s.toList.isEmpty = false := by
  rw [ByteArray.toList_eq]
  cases hd : s.data.toList with
  | nil =>
    have : s.size = s.data.toList.length := by simp
    rw [hd] at this
    rw [this] at h
    exact absurd h (by decide)
  | cons => rfl
/-- What the beginning of a text tells. -/
structure BeginOf (s : ByteArray) (k : Nat) : Prop where
  pos : 0 < s.size
  want : wantL ((strL s).getD 0 0) = k + 1
  le : k ≤ 3
theorem beginOf {s : ByteArray} (h : 0 < s.size) : ∃ k, BeginOf s k := by
  have hw := wantL_bd ((strL s).getD 0 0)
  exact ⟨wantL ((strL s).getD 0 0) - 1, h, by omega, by omega⟩
theorem BeginOf.call {s : ByteArray} {k : Nat} (h : BeginOf s k) (h0 : 0 < s.size) (W : World) (hM : Marks W) :
    Calls Tryz.prog 206 #[.int .u8 ((s[0]'h0).toNat : Int)] W fun e w' => e = .returned (.int .i64 (k : Int)) ∧ W = w' := by
  have hb := (strL_bd s) 0
  have := wanted_any ((strL s).getD 0 0) W hM hb.1 hb.2
  rw [h.want, Nat.add_sub_cancel, strL_get s 0 h.pos] at this
  exact this
set_option maxHeartbeats 1000000 in
theorem begin_short (s : ByteArray) (w : World) (hm : Marks w) (h0 : 0 < s.size) (hs : s.size < wantL ((strL s).getD 0 0)) :
    Calls Tryz.prog 184 #[.string s] w fun e w' => e = .returned (.tuple #[.int .i64 (-1), .int .i64 1]) ∧ Below w.heap.size w w' := by
  obtain ⟨k, hk⟩ := beginOf h0
  rw [hk.want] at hs
  have HW := Lib.hid (fun W (hM : Marks W) => hk.call h0 W hM)
  have hk4 := hk.le
  have hE := notEmpty h0
  have HM := Lib.hid hm
  clear hm hk
  go_enter Tryz.func184, Tryz.ntmps184
  go_wp2_with (go_at_call 206; refine (HW.out _ HM.out).mono ?_; rintro e w' ⟨rfl, rfl⟩)
  go_ret2
  exact ⟨rfl, Below.refl _ _⟩
theorem pow64 (j : Nat) (h : j ≤ 3) : (64 : Int) ^ j ≤ 262144 := by
  match j, h with
  | 0, _ => decide
  | 1, _ => decide
  | 2, _ => decide
  | 3, _ => decide
theorem belowDN (w : World) (n : Nat) : Below w.heap.size w (w.drewN n) := below_drewN (Below.refl _ _) n
theorem or_low (x y : Int) (h0 : 0 ≤ x ∧ x < 140737488355328) (h1 : 0 ≤ y ∧ y < 64) : bits .or .i64 (x * 64) y = x * 64 + y := or_above x y 6 h1.1 (by omega) h0.1 (by omega)
set_option maxRecDepth 100000 in
set_option maxHeartbeats 2000000 in
theorem begin_long (s : ByteArray) (w : World) (hm : Marks w) (h0 : 0 < s.size) (hsz : s.size ≤ 9223372036854775807) (hs : wantL ((strL s).getD 0 0) ≤ s.size) :
    Calls Tryz.prog 184 #[.string s] w fun e w' => e = .returned (.tuple #[.int .i64 (nxL (strL s)).1, .int .i64 ((nxL (strL s)).2 : Int)]) ∧ Below w.heap.size w w' := by
  obtain ⟨k, hk⟩ := beginOf h0
  have hb0 := (strL_bd s) 0
  have hms := marksub_bd _ hb0
  have hacc := accL_bd ((strL s).getD 0 0 - markL (k + 1)) (strL s) (by rw [← hk.want]; exact hms)
  rw [hk.want] at hs hms
  rw [strL_get s 0 h0] at hms
  have HC : Hid (candL (strL s) = accL ((strL s).getD 0 0 - markL (k + 1)) (strL s) k) := Lib.hid (by unfold candL; rw [hk.want, Nat.add_sub_cancel])
  have HG0 : Hid ((strL s).getD 0 0 = ((s[0]'h0).toNat : Int)) := Lib.hid (strL_get s 0 h0)
  have HW := Lib.hid (fun W (hM : Marks W) => hk.call h0 W hM)
  have hk4 := hk.le
  have hE := notEmpty h0
  have HM := Lib.hid hm
  have m1 : w.cell? ⟨2, k + 1, none⟩ = some (.int .i64 (markL (k + 1))) := marks_cell hm (k + 1) (by omega)
  have HWANT := Lib.hid hk.want
  have hmk : 0 ≤ markL (k + 1) ∧ markL (k + 1) ≤ 240 := by unfold markL; split <;> (try split) <;> (try split) <;> omega
  obtain ⟨m, hmm⟩ : ∃ m, m = markL (k + 1) := ⟨_, rfl⟩
  rw [← hmm] at m1 hms hacc HC hmk
  have HA := Lib.hid hacc
  have h1k : (1 : Int) + (k : Int) = ((k + 1 : Nat) : Int) := by omega
  clear hm hk hb0 hmm hacc
  go_enter Tryz.func184, Tryz.ntmps184
  go_wp2_with (go_at_call 206; refine (HW.out _ HM.out).mono ?_; rintro e w' ⟨rfl, rfl⟩)
  go_quiet (fail)
  go_wp2
  go_loopw [2, 4] (fun x i wr => Below w.heap.size w wr ∧ ∃ j : Nat, j ≤ k ∧ i = .int .i64 ((j + 1 : Nat) : Int) ∧ x = .int .i64 (accL ((strL s).getD 0 0 - m) (strL s) j)) (fun _ i _ => k + 1 - (intOf i).toNat)
  case atStart => exact ⟨belowDN w _, 0, by omega, rfl, by rw [HG0.out]; rfl⟩
  case round =>
    obtain ⟨hbel, j, hj, rfl, rfl⟩ := hrel
    have HB := Lib.hid hbel
    clear hbel
    by_cases hlt : j < k
    · have ha := HA.out j
      have h64 := pow64 j (by omega)
      have ha2 : accL ((strL s).getD 0 0 - m) (strL s) j < 140737488355328 := by
        omega
      obtain ⟨ha1, _⟩ := ha
      have HN : Hid (accL ((strL s).getD 0 0 - m) (strL s) (j + 1) = accL ((strL s).getD 0 0 - m) (strL s) j * 64 + ((s[j + 1]'(by omega)).toNat : Int) % 64) := Lib.hid (by rw [accL, strL_get s (j + 1) (by omega)])
      obtain ⟨x, hx⟩ : ∃ x, x = accL ((strL s).getD 0 0 - m) (strL s) j := ⟨_, rfl⟩
      rw [← hx] at ha1 ha2 HN ⊢
      have hu := (s[j + 1]'(by omega)).toNat_lt
      have e1 := and_mask_i64 ((s[j + 1]'(by omega)).toNat : Int) 6 (by decide) (by omega) (by omega)
      replace e1 : bits .and .i64 ((s[j + 1]'(by omega)).toNat : Int) 63 = ((s[j + 1]'(by omega)).toNat : Int) % 64 := e1
      have e2 := or_low x (((s[j + 1]'(by omega)).toNat : Int) % 64) ⟨ha1, ha2⟩ (by omega)
      clear hx h64
      go_wp2
      go_roundw
      case rel => exact ⟨HB.out, j + 1, by omega, by go_num, by rw [HN.out]⟩
      case measure => simp [intOf]; omega
    · obtain rfl : j = k := by omega
      have HML := Lib.hid (HM.out.below HB.out)
      have HPUT := Lib.hid (fun (W : World) (hM : Marks W) => put_any (candL (strL s)) W hM)
      rw [HC.out] at HPUT
      have hnx : Hid (nxL (strL s) = if putL (candL (strL s)) = (strL s).take (j + 1) then (candL (strL s), j + 1) else (-1, 1)) := Lib.hid (by
        have hl := length_strL s
        unfold nxL
        rw [HWANT.out, if_neg (by omega), if_neg (by omega)])
      have hcand : -1 ≤ candL (strL s) := by
        rw [HC.out]
        have := (HA.out j).1
        omega
      by_cases hp : putL (candL (strL s)) = (strL s).take (j + 1)
      · have HR : Hid (nxL (strL s) = (candL (strL s), j + 1)) := Lib.hid (by rw [hnx.out, if_pos hp])
        have heq : ((toS (putL (candL (strL s)))).toList == (s.extract 0 (j + 1)).toList) = true := by
          rw [eq_toList, decide_eq_true_eq, hp]
          exact strL_inj (by rw [strL_toS ((strL_bd s).take _), strL_extract, List.drop_zero])
        rw [HC.out] at heq HR
        obtain ⟨L, hL⟩ : ∃ L, L = accL ((strL s).getD 0 0 - m) (strL s) j := ⟨_, rfl⟩
        rw [← hL] at heq HR HPUT ⊢
        obtain ⟨T, hT⟩ : ∃ T, T = toS (putL L) := ⟨_, rfl⟩
        rw [← hT] at heq HPUT
        clear hp hnx hL hcand hT
        go_wp2_with fail
        have b0 : (0 : Int) ≤ (j : Int) + 1 := by omega
        have b1 : (j : Int) + 1 ≤ (s.size : Int) := by omega
        have b2 : ((j : Int) + 1).toNat = j + 1 := by omega
        go_region_held3 (fun W => Below wr.heap.size wr W) (first | exact (Below.refl _ _).drew | exact Below.trans (by assumption) (hb.mono (Below.size (by assumption))) | go_keep)
          (first | (go_at_call 166; refine (HPUT.out _ (HML.out.below ‹_›)).mono ?_; rintro e w' ⟨rfl, hb⟩))
        have HW' := Lib.hid (‹Below wr.heap.size wr _›)
        clear b0 b1 b2 hb
        go_wp2_with fail
        go_ret2
        rw [HR.out]
        exact ⟨rfl, HB.out.trans (HW'.out.mono HB.out.size)⟩
      · have HR : Hid (nxL (strL s) = (-1, 1)) := Lib.hid (by rw [hnx.out, if_neg hp])
        have heq : ((toS (putL (candL (strL s)))).toList == (s.extract 0 (j + 1)).toList) = false := by
          rw [eq_toList, decide_eq_false_iff_not]
          intro e
          have e2 := (eq_toS (putL_bytes _)).1 e.symm
          rw [strL_extract, List.drop_zero] at e2
          exact hp e2.symm
        rw [HC.out] at heq
        obtain ⟨L, hL⟩ : ∃ L, L = accL ((strL s).getD 0 0 - m) (strL s) j := ⟨_, rfl⟩
        rw [← hL] at heq HPUT ⊢
        obtain ⟨T, hT⟩ : ∃ T, T = toS (putL L) := ⟨_, rfl⟩
        rw [← hT] at heq HPUT
        clear hp hnx hL hcand hT
        go_wp2_with fail
        have b0 : (0 : Int) ≤ (j : Int) + 1 := by omega
        have b1 : (j : Int) + 1 ≤ (s.size : Int) := by omega
        have b2 : ((j : Int) + 1).toNat = j + 1 := by omega
        go_region_held3 (fun W => Below wr.heap.size wr W) (first | exact (Below.refl _ _).drew | exact Below.trans (by assumption) (hb.mono (Below.size (by assumption))) | go_keep)
          (first | (go_at_call 166; refine (HPUT.out _ (HML.out.below ‹_›)).mono ?_; rintro e w' ⟨rfl, hb⟩))
        have HW' := Lib.hid (‹Below wr.heap.size wr _›)
        clear b0 b1 b2 hb
        go_wp2_with fail
        go_ret2
        rw [HR.out]
        exact ⟨rfl, HB.out.trans (HW'.out.mono HB.out.size)⟩
theorem begin_any (s : ByteArray) (w : World) (hm : Marks w) (hs : s.size ≤ 9223372036854775807) :
    Calls Tryz.prog 184 #[.string s] w fun e w' => e = .returned (.tuple #[.int .i64 (nxL (strL s)).1, .int .i64 ((nxL (strL s)).2 : Int)]) ∧ Below w.heap.size w w' := by
  have hl := length_strL s
  rcases Nat.eq_zero_or_pos s.size with h0 | h0
  · have e : s = ⟨#[]⟩ := strL_inj (by rw [List.eq_nil_of_length_eq_zero (hl.trans h0)]; rfl)
    subst e
    exact begin_empty w
  · rcases Nat.lt_or_ge s.size (wantL ((strL s).getD 0 0)) with h1 | h1
    · have : nxL (strL s) = (-1, 1) := by
        unfold nxL
        rw [if_neg (by omega), if_pos (by omega)]
      rw [this]
      exact begin_short s w hm h0 h1
    · exact begin_long s w hm h0 hs h1
end Go.Proofs.YtcjfealalokjaaaGreatDoor
namespace Go.Proofs.YtcjfealalokjaaaGreatDoor
open Go Go.RowKit
/-- Does it begin with - ? -/
def dashB (s : ByteArray) : Bool := decide ((strL s).getD 0 0 = 45)
set_option maxRecDepth 100000 in
theorem hasDash_any (s : ByteArray) (w : World) (hs : s.size ≤ 9223372036854775807) :
    Calls Tryz.prog 218 #[.string s, .string ⟨#[45]⟩] w fun e w' => e = .returned (.bool (dashB s)) ∧ w = w' := by
  have hlen := length_strL s
  by_cases h1 : 1 ≤ s.size
  · have hge : (1 : Int) ≤ (s.size : Int) := by omega
    have he : ((s.extract 0 1).toList == [45]) = dashB s := by
      rw [show ([45] : List UInt8) = (⟨#[45]⟩ : ByteArray).toList by rw [ByteArray.toList_eq], eq_toList, dashB]
      have : s.extract 0 1 = ⟨#[45]⟩ ↔ (strL s).getD 0 0 = 45 := by
        constructor
        · intro h
          have := congrArg strL h
          rw [strL_extract] at this
          cases hl : strL s with
          | nil => rw [hl] at hlen; simp at hlen; omega
          | cons c r =>
            rw [hl] at this
            simpa [strL] using this
        · intro h
          apply strL_inj
          rw [strL_extract]
          cases hl : strL s with
          | nil => rw [hl] at hlen; simp at hlen; omega
          | cons c r =>
            rw [hl] at h
            rw [List.getD_cons_zero] at h
            subst h
            simp [strL]
      exact decide_eq_decide.2 this
    obtain ⟨B, hB⟩ : ∃ B, B = dashB s := ⟨_, rfl⟩
    rw [← hB] at he ⊢
    clear hB hlen
    go_enter Tryz.func218, Tryz.ntmps218
    go_wp2
    go_ret
    exact ⟨rfl, rfl⟩
  · have hge : ¬ (1 : Int) ≤ (s.size : Int) := by omega
    have hd : Hid (dashB s = false) := Lib.hid (by
      unfold dashB
      rw [List.eq_nil_of_length_eq_zero (hlen.trans (by omega))]; rfl)
    clear hlen
    go_enter Tryz.func218, Tryz.ntmps218
    go_wp2
    go_ret
    rw [hd.out]
    exact ⟨rfl, rfl⟩
/-- What stands behind a sign. -/
def restS (s : ByteArray) : ByteArray := if dashB s = true then s.extract 1 s.size else s
theorem dash_size {s : ByteArray} (h : dashB s = true) : 1 ≤ s.size := by
  unfold dashB at h
  rw [decide_eq_true_eq] at h
  rw [← length_strL]
  cases hl : strL s with
  | nil => rw [hl] at h; simp at h
  | cons c r => simp
set_option maxRecDepth 100000 in
theorem cutDash_any (s : ByteArray) (w : World) (hs : s.size ≤ 9223372036854775807) :
    Calls Tryz.prog 205 #[.string s, .string ⟨#[45]⟩] w fun e w' => e = .returned (.tuple #[.string (restS s), .bool (dashB s)]) ∧ w = w' := by
  have HP := Lib.hid (hasDash_any s w hs)
  cases hd : dashB s with
  | true =>
    rw [hd] at HP
    have hge : (1 : Int) ≤ (s.size : Int) := by have := dash_size hd; omega
    have HR : Hid (restS s = s.extract 1 s.size) := Lib.hid (by unfold restS; rw [if_pos hd])
    clear hd
    go_enter Tryz.func205, Tryz.ntmps205
    go_wp2_with (go_at_call 218; refine HP.out.mono ?_; rintro e w' ⟨rfl, rfl⟩)
    go_ret2
    rw [HR.out]
    exact ⟨rfl, rfl⟩
  | false =>
    rw [hd] at HP
    have HR : Hid (restS s = s) := Lib.hid (by unfold restS; rw [if_neg (by rw [hd]; decide)])
    clear hd
    go_enter Tryz.func205, Tryz.ntmps205
    go_wp2_with (go_at_call 218; refine HP.out.mono ?_; rintro e w' ⟨rfl, rfl⟩)
    go_ret2
    rw [HR.out]
    exact ⟨rfl, rfl⟩
set_option maxRecDepth 100000 in
theorem cutDash2_any (s : ByteArray) (w : World) (hs : s.size ≤ 9223372036854775807) :
    Calls Tryz.prog 182 #[.string s, .string ⟨#[45]⟩] w fun e w' => e = .returned (.tuple #[.string (restS s), .bool (dashB s)]) ∧ w = w' := by
  have HP := Lib.hid (cutDash_any s w hs)
  go_enter Tryz.func182, Tryz.ntmps182
  go_wp2_with (go_at_call 205; refine HP.out.mono ?_; rintro e w' ⟨rfl, rfl⟩)
  go_ret2
  exact ⟨rfl, rfl⟩
set_option maxRecDepth 100000 in
theorem parts_any (s : ByteArray) (w : World) (hs : s.size ≤ 9223372036854775807) :
    Calls Tryz.prog 163 #[.string s] w fun e w' => e = .returned (.tuple #[.bool (dashB s), .string (restS s)]) ∧ w = w' := by
  have HP := Lib.hid (cutDash2_any s w hs)
  go_enter Tryz.func163, Tryz.ntmps163
  go_wp2_with (go_at_call 182; refine HP.out.mono ?_; rintro e w' ⟨rfl, rfl⟩)
  go_ret2
  exact ⟨rfl, rfl⟩
set_option maxRecDepth 100000 in
theorem belowZero_any (n : Int) (w : World) (h0 : -9223372036854775808 ≤ n) (h1 : n ≤ 9223372036854775807) :
    Calls Tryz.prog 190 #[.int .i64 n] w fun e w' => e = .returned (.int .i64 (-(n.natAbs : Int))) ∧ w = w' := by
  by_cases h : 0 < n
  · have HR : Hid (-(n.natAbs : Int) = -n) := Lib.hid (by omega)
    go_enter Tryz.func190, Tryz.ntmps190
    go_wp2
    go_ret
    rw [HR.out]
    exact ⟨rfl, rfl⟩
  · have HR : Hid (-(n.natAbs : Int) = n) := Lib.hid (by omega)
    go_enter Tryz.func190, Tryz.ntmps190
    go_wp2
    go_ret
    rw [HR.out]
    exact ⟨rfl, rfl⟩
/-! ### countDigits -/
theorem runL_eq : ∀ {l : List Int} {k : Nat}, k ≤ l.length → (∀ j, j < k → 48 ≤ l.getD j 0 ∧ l.getD j 0 ≤ 57) → (k < l.length → ¬ (48 ≤ l.getD k 0 ∧ l.getD k 0 ≤ 57)) → runL l = k
  | [], k, hk, _, _ => by simp at hk; subst hk; rfl
  | c :: r, 0, _, _, h => by
    have := h (by simp)
    rw [List.getD_cons_zero] at this
    rw [runL, if_neg (by rw [isD_iff]; exact this)]
  | c :: r, k + 1, hk, ha, h => by
    have h0 := ha 0 (by omega)
    rw [List.getD_cons_zero] at h0
    rw [runL, if_pos (isD_iff.2 h0), runL_eq (l := r) (k := k) (by simpa using hk) (fun j hj => by
      have := ha (j + 1) (by omega)
      rwa [List.getD_cons_succ] at this) (fun hlt => by
      have := h (by simpa using hlt)
      rwa [List.getD_cons_succ] at this)]
set_option maxRecDepth 100000 in
set_option maxHeartbeats 1000000 in
theorem countDigits_any (s : ByteArray) (w : World) (hs : s.size ≤ 9223372036854775807) :
    Calls Tryz.prog 164 #[.string s] w fun e w' => e = .returned (.int .i64 (runL (strL s) : Int)) ∧ w = w' := by
  have HL := Lib.hid (length_strL s)
  go_enter Tryz.func164, Tryz.ntmps164
  go_wp2
  go_loop [6] (fun i => ∃ k : Nat, k ≤ s.size ∧ i = .int .i64 (k : Int) ∧ ∀ j, j < k → 48 ≤ (strL s).getD j 0 ∧ (strL s).getD j 0 ≤ 57) (fun i => s.size - (intOf i).toNat)
  case atStart => exact ⟨0, by omega, rfl, fun j hj => by omega⟩
  case round =>
    obtain ⟨k, hk, rfl, hall⟩ := hrel
    have HA := Lib.hid hall
    clear hall
    by_cases hlt : k < s.size
    · have HG := Lib.hid (strL_get s k hlt)
      by_cases hd : 48 ≤ (strL s).getD k 0 ∧ (strL s).getD k 0 ≤ 57
      · obtain ⟨hd1, hd2⟩ := hd
        have HD := Lib.hid (And.intro hd1 hd2)
        rw [HG.out] at hd1 hd2
        go_wp2
        go_round
        case rel => exact ⟨k + 1, by omega, by go_num, fun j hj => by
          rcases Nat.lt_or_ge j k with h | h
          · exact HA.out j h
          · obtain rfl : j = k := by omega
            exact HD.out⟩
        case measure => simp [intOf]; omega
      · have HR : Hid (runL (strL s) = k) := Lib.hid (runL_eq (by rw [HL.out]; exact hk) HA.out (fun _ => hd))
        rw [HG.out] at hd
        by_cases hd1 : ((s[k]'hlt).toNat : Int) < 48
        · clear hd
          go_wp2
          go_ret
          rw [HR.out]
          exact ⟨rfl, rfl⟩
        · have hd2 : 57 < ((s[k]'hlt).toNat : Int) := by omega
          clear hd
          go_wp2
          go_ret
          rw [HR.out]
          exact ⟨rfl, rfl⟩
    · obtain rfl : k = s.size := by omega
      have HR : Hid (runL (strL s) = s.size) := Lib.hid (runL_eq (by rw [HL.out]; exact Nat.le_refl _) HA.out (fun h => by rw [HL.out] at h; omega))
      go_wp2
      go_ret
      rw [HR.out]
      exact ⟨rfl, rfl⟩
/-! ### Lead -/
theorem restL (s : ByteArray) : strL (restS s) = if dashB s = true then (strL s).drop 1 else strL s := by
  unfold restS
  split
  · rw [strL_extract, List.take_of_length_le (by rw [length_strL]; exact Nat.le_refl _)]
  · rfl
theorem restS_size (s : ByteArray) : (restS s).size ≤ s.size := by
  rw [← length_strL, ← length_strL, restL]
  split
  · rw [List.length_drop]; omega
  · exact Nat.le_refl _
theorem runL_first {l : List Int} (h : 0 < runL l) : 48 ≤ l.getD 0 0 ∧ l.getD 0 0 ≤ 57 := isD_iff.1 (runL_digit l 0 h)
theorem runL_none {l : List Int} (h : runL l = 0) : ¬ (48 ≤ l.getD 0 0 ∧ l.getD 0 0 ≤ 57) := fun hc => by
  cases l with
  | nil => simp at hc
  | cons c r => rw [List.getD_cons_zero] at hc; rw [runL, if_pos (isD_iff.2 hc)] at h; omega
theorem dash_cons {s : ByteArray} (h : dashB s = true) : strL s = 45 :: (strL s).drop 1 := by
  unfold dashB at h
  rw [decide_eq_true_eq] at h
  cases hl : strL s with
  | nil => rw [hl] at h; simp at h
  | cons c r => rw [hl] at h; rw [List.getD_cons_zero] at h; rw [h]; rfl
theorem lead_dash {s : ByteArray} (h : dashB s = true) : leadL (strL s) = if 0 < runL (strL (restS s)) ∧ (strL (restS s)).getD 0 0 ≠ 48 then runL (strL (restS s)) + 1 else 0 := by
  rw [restL, if_pos h, dash_cons h, List.drop_succ_cons, List.drop_zero, leadL, if_pos rfl]
  obtain ⟨r, hr⟩ : ∃ r, r = (strL s).drop 1 := ⟨_, rfl⟩
  rw [← hr]
  by_cases h0 : 0 < runL r
  · have := runL_first h0
    by_cases h48 : r.getD 0 0 = 48
    · rw [if_neg (by omega), if_neg (by omega)]
    · rw [if_pos (by omega), if_pos ⟨h0, h48⟩]
  · have := runL_none (l := r) (by omega)
    rw [if_neg (by omega), if_neg (by omega)]
theorem lead_plain {s : ByteArray} (h : dashB s = false) : leadL (strL s) = if 0 < runL (strL (restS s)) ∧ (strL (restS s)).getD 0 0 = 48 then 1 else runL (strL (restS s)) := by
  rw [show strL (restS s) = strL s by rw [restL, h]; rfl]
  unfold dashB at h
  rw [decide_eq_false_iff_not] at h
  obtain ⟨l, hl⟩ : ∃ l, l = strL s := ⟨_, rfl⟩
  rw [← hl] at h ⊢
  cases l with
  | nil => rfl
  | cons c r =>
    rw [List.getD_cons_zero] at h ⊢
    rw [leadL, if_neg h]
    by_cases h48 : c = 48
    · have : 0 < runL (c :: r) := by rw [runL, if_pos (isD_iff.2 (by omega))]; omega
      rw [if_pos h48, if_pos ⟨this, h48⟩]
    · rw [if_neg h48, if_neg (by omega)]
set_option maxRecDepth 100000 in
set_option maxHeartbeats 1000000 in
theorem lead_anyN (s : ByteArray) (w : World) (hs : s.size ≤ 9223372036854775806) :
    Calls Tryz.prog 137 #[.string s] w fun e w' => e = .returned (.int .i64 (leadL (strL s) : Int)) ∧ Below w.heap.size w w' := by
  have hrs := restS_size s
  have HP := Lib.hid (parts_any s w (by omega))
  have HC := Lib.hid (countDigits_any (restS s) w (by omega))
  have HL : Hid (dashB s = true → leadL (strL s) = if 0 < runL (strL (restS s)) ∧ (strL (restS s)).getD 0 0 ≠ 48 then runL (strL (restS s)) + 1 else 0) := Lib.hid lead_dash
  have HL2 : Hid (dashB s = false → leadL (strL s) = if 0 < runL (strL (restS s)) ∧ (strL (restS s)).getD 0 0 = 48 then 1 else runL (strL (restS s))) := Lib.hid lead_plain
  have hrl := runL_le (strL (restS s))
  rw [length_strL] at hrl
  obtain ⟨T, hT⟩ : ∃ T, T = restS s := ⟨_, rfl⟩
  obtain ⟨m, hm⟩ : ∃ m, m = leadL (strL s) := ⟨_, rfl⟩
  rw [← hT] at HP HC HL HL2 hrs hrl
  rw [← hm] at HL HL2 ⊢
  have HG : Hid (∀ h : 0 < T.size, (strL T).getD 0 0 = ((T[0]'h).toNat : Int)) := Lib.hid (fun h => strL_get T 0 h)
  obtain ⟨n, hn⟩ : ∃ n, n = runL (strL T) := ⟨_, rfl⟩
  rw [← hn] at HC HL HL2 hrl
  clear hm hT hn
  by_cases h0 : 0 < n
  · have hz : 0 < T.size := by omega
    have hb : ((n : Int) == 0) = false := by rw [beq_eq_false_iff_ne]; omega
    by_cases h48 : ((T[0]'hz).toNat : Int) = 48
    · have hc : (((T[0]'hz).toNat : Int) == 48) = true := by rw [beq_iff_eq]; exact h48
      cases hd : dashB s with
      | true =>
        rw [hd] at HP
        have HR : Hid (m = 0) := Lib.hid (by rw [HL.out hd, if_neg (by rw [HG.out hz]; omega)])
        clear hd h48
        go_enter Tryz.func137, Tryz.ntmps137
        go_wp2_with (first
          | (go_at_call 163; refine HP.out.mono ?_; rintro e w' ⟨rfl, rfl⟩)
          | (go_at_call 164; refine HC.out.mono ?_; rintro e w' ⟨rfl, rfl⟩))
        go_ret
        rw [HR.out]
        exact ⟨rfl, Below.refl _ _⟩
      | false =>
        rw [hd] at HP
        have HR : Hid (m = 1) := Lib.hid (by rw [HL2.out hd, if_pos ⟨h0, by rw [HG.out hz]; exact h48⟩])
        clear hd h48
        go_enter Tryz.func137, Tryz.ntmps137
        go_wp2_with (first
          | (go_at_call 163; refine HP.out.mono ?_; rintro e w' ⟨rfl, rfl⟩)
          | (go_at_call 164; refine HC.out.mono ?_; rintro e w' ⟨rfl, rfl⟩))
        go_ret
        rw [HR.out]
        exact ⟨rfl, Below.refl _ _⟩
    · have hc : (((T[0]'hz).toNat : Int) == 48) = false := by rw [beq_eq_false_iff_ne]; exact h48
      cases hd : dashB s with
      | true =>
        rw [hd] at HP
        have HR : Hid (m = n + 1) := Lib.hid (by rw [HL.out hd, if_pos ⟨h0, by rw [HG.out hz]; exact h48⟩])
        clear hd h48
        go_enter Tryz.func137, Tryz.ntmps137
        go_wp2_with (first
          | (go_at_call 163; refine HP.out.mono ?_; rintro e w' ⟨rfl, rfl⟩)
          | (go_at_call 164; refine HC.out.mono ?_; rintro e w' ⟨rfl, rfl⟩))
        go_ret
        rw [HR.out]
        exact ⟨ret_int (by omega), Below.refl _ _⟩
      | false =>
        rw [hd] at HP
        have HR : Hid (m = n) := Lib.hid (by rw [HL2.out hd, if_neg (by rw [HG.out hz]; omega)])
        clear hd h48
        go_enter Tryz.func137, Tryz.ntmps137
        go_wp2_with (first
          | (go_at_call 163; refine HP.out.mono ?_; rintro e w' ⟨rfl, rfl⟩)
          | (go_at_call 164; refine HC.out.mono ?_; rintro e w' ⟨rfl, rfl⟩))
        go_ret
        rw [HR.out]
        exact ⟨rfl, Below.refl _ _⟩
  · obtain rfl : n = 0 := by omega
    have HR : Hid (m = 0) := Lib.hid (by
      cases hd : dashB s with
      | true => rw [HL.out hd, if_neg (by omega)]
      | false => rw [HL2.out hd, if_neg (by omega)])
    clear h0
    go_enter Tryz.func137, Tryz.ntmps137
    go_wp2_with (first
      | (go_at_call 163; refine HP.out.mono ?_; rintro e w' ⟨rfl, rfl⟩)
      | (go_at_call 164; refine HC.out.mono ?_; rintro e w' ⟨rfl, rfl⟩))
    go_ret
    rw [HR.out]
    exact ⟨rfl, Below.refl _ _⟩
end Go.Proofs.YtcjfealalokjaaaGreatDoor
namespace Go.Proofs.YtcjfealalokjaaaGreatDoor
open Go Go.RowKit
theorem toList_is (F : ByteArray) (l : List UInt8) : (F.toList == l) = decide (strL F = l.map fun b => (b.toNat : Int)) := by
  rw [Bool.eq_iff_iff, beq_iff_eq, decide_eq_true_eq, ByteArray.toList_eq]
  constructor
  · intro h; unfold strL; rw [h]
  · intro h
    refine (List.map_inj_right (f := fun b : UInt8 => (b.toNat : Int)) ?_).1 h
    intro x y hxy
    exact UInt8.toNat_inj.1 (by omega)
theorem beq_nat (a b : Nat) : ((a : Int) == (b : Int)) = decide (a = b) := by rw [Bool.eq_iff_iff, beq_iff_eq, decide_eq_true_eq]; omega
section
variable (s F : ByteArray) (m : Nat) (w : World) (hm : (min (s.size : Int) 2).toNat = m) (hF : s.extract 0 m = F)
include hm hF
set_option maxRecDepth 100000 in
set_option maxHeartbeats 2000000 in
theorem sign_two (h : strL F = [33, 61] ∨ strL F = [60, 61] ∨ strL F = [62, 61]) :
    Calls Tryz.prog 102 #[.string s] w fun e w' => e = .returned (.int .i64 2) ∧ w = w' := by
  rcases h with h | h | h
  · have b1 : (F.toList == [33, 61]) = true := by rw [toList_is, h]; rfl
    clear h
    go_enter Tryz.func102, Tryz.ntmps102
    go_wp2_with fail
    go_ret
    exact ⟨rfl, rfl⟩
  · have b1 : (F.toList == [33, 61]) = false := by rw [toList_is, h]; rfl
    have b2 : (F.toList == [60, 61]) = true := by rw [toList_is, h]; rfl
    clear h
    go_enter Tryz.func102, Tryz.ntmps102
    go_wp2_with fail
    go_ret
    exact ⟨rfl, rfl⟩
  · have b1 : (F.toList == [33, 61]) = false := by rw [toList_is, h]; rfl
    have b2 : (F.toList == [60, 61]) = false := by rw [toList_is, h]; rfl
    have b3 : (F.toList == [62, 61]) = true := by rw [toList_is, h]; rfl
    clear h
    go_enter Tryz.func102, Tryz.ntmps102
    go_wp2_with fail
    go_ret
    exact ⟨rfl, rfl⟩
set_option maxRecDepth 100000 in
set_option maxHeartbeats 2000000 in
theorem sign_one (h1 : strL F ≠ [33, 61]) (h2 : strL F ≠ [60, 61]) (h3 : strL F ≠ [62, 61]) (hz : 0 < F.size) :
    Calls Tryz.prog 102 #[.string s] w fun e w' => e = .returned (.int .i64 (if oneC (F[0].toNat : Int) then 1 else 0)) ∧ w = w' := by
  have b1 : (F.toList == [33, 61]) = false := by rw [toList_is]; exact decide_eq_false h1
  have b2 : (F.toList == [60, 61]) = false := by rw [toList_is]; exact decide_eq_false h2
  have b3 : (F.toList == [62, 61]) = false := by rw [toList_is]; exact decide_eq_false h3
  have hne : strL F ≠ [] := fun e => by have := length_strL F; rw [e] at this; simp at this; omega
  have b4 : (F.toList == []) = false := by rw [toList_is]; exact decide_eq_false hne
  have b5 : ¬ F.toList = [] := fun e => by rw [e] at b4; cases b4
  have HIX := Lib.hid (fun W : World => ixSign_any (F[0].toNat : Int) W (byte_of F 0 hz).1 (byte_of F 0 hz).2)
  clear h1 h2 h3 hne
  cases hb : oneC (F[0].toNat : Int) with
  | true =>
    have HBB := Lib.hid hb
    clear hb
    go_enter Tryz.func102, Tryz.ntmps102
    go_wp2_with fail
    refine (HIX.out _).mono ?_
    rintro e w1 ⟨⟨x, rfl, hx, _⟩, rfl⟩
    have hx0 := hx HBB.out
    clear hx
    go_wp2_with fail
    go_ret
    exact ⟨rfl, rfl⟩
  | false =>
    have HBB := Lib.hid hb
    clear hb
    go_enter Tryz.func102, Tryz.ntmps102
    go_wp2_with fail
    refine (HIX.out _).mono ?_
    rintro e w1 ⟨⟨x, rfl, _, hx⟩, rfl⟩
    have hx0 := hx HBB.out
    clear hx
    go_wp2_with fail
    go_ret
    exact ⟨rfl, rfl⟩
set_option maxRecDepth 100000 in
set_option maxHeartbeats 2000000 in
theorem sign_none (h : strL F = []) :
    Calls Tryz.prog 102 #[.string s] w fun e w' => e = .returned (.int .i64 0) ∧ w = w' := by
  have b1 : (F.toList == [33, 61]) = false := by rw [toList_is, h]; rfl
  have b2 : (F.toList == [60, 61]) = false := by rw [toList_is, h]; rfl
  have b3 : (F.toList == [62, 61]) = false := by rw [toList_is, h]; rfl
  have b4 : (F.toList == []) = true := by rw [toList_is, h]; rfl
  have b5 : F.toList = [] := by rw [beq_iff_eq] at b4; exact b4
  clear h
  go_enter Tryz.func102, Tryz.ntmps102
  go_wp2_with fail
  go_ret
  exact ⟨rfl, rfl⟩
end
theorem leadSign_any (s : ByteArray) (w : World) : Calls Tryz.prog 102 #[.string s] w fun e w' => e = .returned (.int .i64 (signN (strL s) : Int)) ∧ w = w' := by
  by_cases h0 : s.size = 0
  · rw [str_nil h0]
    exact sign_none _ _ _ w rfl rfl rfl
  · have hlen := length_strL s
    have hF : strL (s.extract 0 (min (s.size : Int) 2).toNat) = (strL s).take 2 := by
      rw [strL_extract, List.drop_zero]
      by_cases h1 : s.size = 1
      · rw [List.take_of_length_le (by rw [hlen, h1]; decide), List.take_of_length_le (by rw [hlen, h1]; decide)]
      · rw [show (min (s.size : Int) 2).toNat = 2 by omega]
    have hz : 0 < (s.extract 0 (min (s.size : Int) 2).toNat).size := by
      rw [← length_strL, hF, List.length_take]; omega
    have hb0 := strL_get _ 0 hz
    rw [hF] at hb0
    by_cases h : (strL s).take 2 = [33, 61] ∨ (strL s).take 2 = [60, 61] ∨ (strL s).take 2 = [62, 61]
    · refine (sign_two s _ _ w rfl rfl (by rw [hF]; exact h)).mono ?_
      rintro e w' ⟨rfl, rfl⟩
      refine ⟨ret_int ?_, rfl⟩
      match hs : strL s, h with
      | [], h => simp at h
      | [c], h => simp at h
      | c :: d :: r, h =>
        simp at h
        rw [signN, if_pos (by omega)]; rfl
    · refine (sign_one s _ _ w rfl rfl (by rw [hF]; exact fun e => h (.inl e)) (by rw [hF]; exact fun e => h (.inr (.inl e))) (by rw [hF]; exact fun e => h (.inr (.inr e))) hz).mono ?_
      rintro e w' ⟨rfl, rfl⟩
      refine ⟨ret_int ?_, rfl⟩
      rw [← hb0]
      match hs : strL s, h with
      | [], h => rw [hs] at hlen; simp at hlen; omega
      | [c], h => simp only [signN, List.take_succ_cons, List.getD_cons_zero]; split <;> rfl
      | c :: d :: r, h =>
        have h' : ¬ (d = 61 ∧ (c = 33 ∨ c = 60 ∨ c = 62)) := fun hq => h (by
          obtain ⟨rfl, rfl | rfl | rfl⟩ := hq <;> simp)
        rw [signN, if_neg h', List.take_succ_cons, List.getD_cons_zero]; split <;> rfl
/-! ### isWord, isSign -/
def isWordB (s : ByteArray) : Bool := decide (s.size ≠ 0 ∧ s.size ≤ 32 ∧ wordN (strL s) = s.size)
def isSignB (s : ByteArray) : Bool := decide (s.size ≠ 0 ∧ signN (strL s) = s.size)
theorem ne_of_size {s : ByteArray} (h : s.size ≠ 0) : (s.toList == []) = false ∧ ¬ s.toList = [] := by
  have hne : strL s ≠ [] := fun e => by have := length_strL s; rw [e] at this; simp at this; omega
  have b4 : (s.toList == []) = false := by rw [toList_is]; exact decide_eq_false hne
  exact ⟨b4, fun e => by rw [e] at b4; cases b4⟩
set_option maxRecDepth 100000 in
theorem isWord_any (s : ByteArray) (w : World) (hs : s.size ≤ 9223372036854775807) : Calls Tryz.prog 171 #[.string s] w fun e w' => e = .returned (.bool (isWordB s)) ∧ w = w' := by
  by_cases h0 : s.size = 0
  · rw [str_nil h0]
    go_enter Tryz.func171, Tryz.ntmps171
    go_wp2_with fail
    go_ret
    exact ⟨rfl, rfl⟩
  · obtain ⟨b0, b1⟩ := ne_of_size h0
    by_cases h1 : s.size ≤ 32
    · have h2 : (s.size : Int) ≤ 32 := by omega
      have HW := Lib.hid (fun W : World => leadWord_any s W hs)
      have HB : Hid (isWordB s = decide (wordN (strL s) = s.size)) := Lib.hid (by unfold isWordB; rw [decide_eq_decide]; exact ⟨fun h => h.2.2, fun h => ⟨h0, h1, h⟩⟩)
      obtain ⟨q, hq⟩ : ∃ q, q = wordN (strL s) := ⟨_, rfl⟩
      rw [← hq] at HW HB
      clear hs h0 h1 hq
      go_enter Tryz.func171, Tryz.ntmps171
      go_wp2_with fail
      refine (HW.out _).mono ?_
      rintro e w' ⟨rfl, rfl⟩
      go_wp2_with fail
      go_ret
      rw [HB.out]
      exact ⟨congrArg (fun b => Ending.returned (.bool b)) (beq_nat _ _), rfl⟩
    · have h2 : ¬ (s.size : Int) ≤ 32 := by omega
      have HB : Hid (isWordB s = false) := Lib.hid (decide_eq_false fun h => h1 h.2.1)
      clear hs h0 h1
      go_enter Tryz.func171, Tryz.ntmps171
      go_wp2_with fail
      go_ret
      rw [HB.out]
      exact ⟨rfl, rfl⟩
set_option maxRecDepth 100000 in
theorem isSign_any (s : ByteArray) (w : World) : Calls Tryz.prog 173 #[.string s] w fun e w' => e = .returned (.bool (isSignB s)) ∧ w = w' := by
  by_cases h0 : s.size = 0
  · rw [str_nil h0]
    go_enter Tryz.func173, Tryz.ntmps173
    go_wp2_with fail
    go_ret
    exact ⟨rfl, rfl⟩
  · obtain ⟨b0, b1⟩ := ne_of_size h0
    have HW := Lib.hid (fun W : World => leadSign_any s W)
    have HB : Hid (isSignB s = decide (signN (strL s) = s.size)) := Lib.hid (by unfold isSignB; rw [decide_eq_decide]; exact ⟨fun h => h.2, fun h => ⟨h0, h⟩⟩)
    obtain ⟨q, hq⟩ : ∃ q, q = signN (strL s) := ⟨_, rfl⟩
    rw [← hq] at HW HB
    clear h0 hq
    go_enter Tryz.func173, Tryz.ntmps173
    go_wp2_with fail
    refine (HW.out _).mono ?_
    rintro e w' ⟨rfl, rfl⟩
    go_wp2_with fail
    go_ret
    rw [HB.out]
    exact ⟨congrArg (fun b => Ending.returned (.bool b)) (beq_nat _ _), rfl⟩
/-! ### kindOf -/
/-- The kind of the token that a text begins with. -/
def kindL (l : List Int) : Int := if l = [] then 5 else if 0 < wordN l then 1 else if l.getD 0 0 = 34 then 2 else if 0 < leadL l then 3 else if 0 < signN l then 4 else 0
set_option maxRecDepth 100000 in
set_option maxHeartbeats 2000000 in
theorem kindOf_any (s : ByteArray) (w : World) (hs : s.size ≤ 1000000000) : Calls Tryz.prog 97 #[.string s] w fun e w' => e = .returned (.int .i64 (kindL (strL s))) ∧ Below w.heap.size w w' := by
  by_cases h0 : s.size = 0
  · rw [str_nil h0]
    go_enter Tryz.func97, Tryz.ntmps97
    go_wp2_with fail
    go_ret
    exact ⟨rfl, Below.refl _ _⟩
  · obtain ⟨b0, b1⟩ := ne_of_size h0
    have hne : strL s ≠ [] := fun e => by have := length_strL s; rw [e] at this; simp at this; omega
    have hz : 0 < s.size := by omega
    have HW := Lib.hid (fun W : World => leadWord_any s W (by omega))
    have HL := Lib.hid (fun W : World => lead_anyN s W (by omega))
    have HS := Lib.hid (fun W : World => leadSign_any s W)
    have hg0 := strL_get s 0 hz
    have HK : Hid (kindL (strL s) = if 0 < wordN (strL s) then 1 else if (strL s).getD 0 0 = 34 then 2 else if 0 < leadL (strL s) then 3 else if 0 < signN (strL s) then 4 else 0) := Lib.hid (by unfold kindL; rw [if_neg hne])
    rw [hg0] at HK
    obtain ⟨q, hq⟩ : ∃ q, q = wordN (strL s) := ⟨_, rfl⟩
    obtain ⟨p, hp⟩ : ∃ p, p = leadL (strL s) := ⟨_, rfl⟩
    obtain ⟨r, hr⟩ : ∃ r, r = signN (strL s) := ⟨_, rfl⟩
    rw [← hq] at HW HK
    rw [← hp] at HL HK
    rw [← hr] at HS HK
    clear hq hp hr hg0 hne h0 hs
    by_cases h1 : 0 < q
    · have h1' : (0 : Int) < (q : Int) := by omega
      rw [if_pos h1] at HK
      rw [HK.out]
      clear h1
      go_enter Tryz.func97, Tryz.ntmps97
      go_wp2_with fail
      refine (HW.out _).mono ?_
      rintro e w' ⟨rfl, rfl⟩
      go_wp2_with fail
      go_ret
      exact ⟨rfl, Below.refl _ _⟩
    · have h1' : ¬ (0 : Int) < (q : Int) := by omega
      rw [if_neg h1] at HK
      clear h1
      by_cases h2 : (s[0].toNat : Int) = 34
      · rw [if_pos h2] at HK
        have e2 : ((s[0].toNat : Int) == 34) = true := by rw [h2]; rfl
        rw [HK.out]
        clear h2 HK
        go_enter Tryz.func97, Tryz.ntmps97
        go_wp2_with fail
        refine (HW.out _).mono ?_
        rintro e w' ⟨rfl, rfl⟩
        go_wp2_with fail
        go_ret
        exact ⟨rfl, Below.refl _ _⟩
      · rw [if_neg h2] at HK
        have e2 : ((s[0].toNat : Int) == 34) = false := by rw [beq_eq_false_iff_ne]; exact h2
        clear h2
        by_cases h3 : 0 < p
        · have h3' : (0 : Int) < (p : Int) := by omega
          rw [if_pos h3] at HK
          rw [HK.out]
          clear h3
          go_enter Tryz.func97, Tryz.ntmps97
          go_wp2_with fail
          refine (HW.out _).mono ?_
          rintro e w' ⟨rfl, rfl⟩
          go_wp2_with fail
          refine (HL.out _).mono ?_
          rintro e w' ⟨rfl, hb⟩
          have HB := Lib.hid hb
          clear hb
          go_wp2_with fail
          go_ret
          exact ⟨rfl, HB.out⟩
        · have h3' : ¬ (0 : Int) < (p : Int) := by omega
          rw [if_neg h3] at HK
          clear h3
          by_cases h4 : 0 < r
          · have h4' : (0 : Int) < (r : Int) := by omega
            rw [if_pos h4] at HK
            rw [HK.out]
            clear h4
            go_enter Tryz.func97, Tryz.ntmps97
            go_wp2_with fail
            refine (HW.out _).mono ?_
            rintro e w' ⟨rfl, rfl⟩
            go_wp2_with fail
            refine (HL.out _).mono ?_
            rintro e w' ⟨rfl, hb⟩
            have HB := Lib.hid hb
            clear hb
            go_wp2_with fail
            refine (HS.out _).mono ?_
            rintro e w' ⟨rfl, rfl⟩
            go_wp2_with fail
            go_ret
            exact ⟨rfl, HB.out⟩
          · have h4' : ¬ (0 : Int) < (r : Int) := by omega
            rw [if_neg h4] at HK
            rw [HK.out]
            clear h4
            go_enter Tryz.func97, Tryz.ntmps97
            go_wp2_with fail
            refine (HW.out _).mono ?_
            rintro e w' ⟨rfl, rfl⟩
            go_wp2_with fail
            refine (HL.out _).mono ?_
            rintro e w' ⟨rfl, hb⟩
            have HB := Lib.hid hb
            clear hb
            go_wp2_with fail
            refine (HS.out _).mono ?_
            rintro e w' ⟨rfl, rfl⟩
            go_wp2_with fail
            go_ret
            exact ⟨rfl, HB.out⟩
end Go.Proofs.YtcjfealalokjaaaGreatDoor
namespace Go.Proofs.YtcjfealalokjaaaGreatDoor
open Go Go.RowKit
theorem runL_take : ∀ (l : List Int), runL (l.take (runL l)) = runL l
  | [] => rfl
  | c :: r => by
    by_cases h : isD c = true
    · have e : runL (c :: r) = runL r + 1 := by rw [runL, if_pos h]
      rw [e, List.take_succ_cons, runL, if_pos h, runL_take r]
    · have e : runL (c :: r) = 0 := by rw [runL, if_neg h]
      rw [e]; rfl
theorem getD_take0 (r : List Int) (k : Nat) (h : 0 < k) : (r.take k).getD 0 0 = r.getD 0 0 := by
  cases r with
  | nil => simp
  | cons a t => obtain ⟨j, rfl⟩ : ∃ j, k = j + 1 := ⟨k - 1, by omega⟩; rfl
/-- What leads is a number's text. -/
theorem form_lead_take {l : List Int} (h : leadL l ≠ 0) : formL (l.take (leadL l)) = true := by
  have hle := leadL_le l
  unfold formL
  rw [decide_eq_true_eq]
  have hlen : (l.take (leadL l)).length = leadL l := by rw [List.length_take]; omega
  refine ⟨fun e => by rw [e] at hlen; exact h hlen.symm, ?_⟩
  rw [hlen]
  cases l with
  | nil => rfl
  | cons c r =>
    have e : leadL (c :: r) = if c = 45 then (if 49 ≤ r.getD 0 0 ∧ r.getD 0 0 ≤ 57 then runL r + 1 else 0) else if c = 48 then 1 else runL (c :: r) := by rw [leadL]
    by_cases h45 : c = 45
    · subst h45
      by_cases hd : 49 ≤ r.getD 0 0 ∧ r.getD 0 0 ≤ 57
      · rw [if_pos rfl, if_pos hd] at e
        rw [e, List.take_succ_cons, leadL, if_pos rfl, getD_take0 r _ (by
          cases r with
          | nil => simp at hd
          | cons a t => rw [List.getD_cons_zero] at hd; rw [runL, if_pos (isD_iff.2 (by omega))]; omega), if_pos hd, runL_take]
      · rw [if_pos rfl, if_neg hd] at e
        exact absurd e h
    · rw [if_neg h45] at e
      by_cases h48 : c = 48
      · subst h48
        rw [if_pos rfl] at e
        rw [e]; rfl
      · rw [if_neg h48] at e
        have hr : runL (c :: r) ≠ 0 := by rw [← e]; exact h
        obtain ⟨j, hj⟩ : ∃ j, runL (c :: r) = j + 1 := ⟨runL (c :: r) - 1, by omega⟩
        have ht := runL_take (c :: r)
        rw [e]
        rw [hj] at ht ⊢
        rw [List.take_succ_cons] at ht ⊢
        rw [leadL, if_neg h45, if_neg h48]
        exact ht
end Go.Proofs.YtcjfealalokjaaaGreatDoor
namespace Go.Proofs.YtcjfealalokjaaaGreatDoor
open Go Go.RowKit
theorem take_val {l : List Int} {k : Nat} (hk : k < l.length) : valL (l.take (k + 1)) = valL (l.take k) * 10 + (l.getD k 0 - 48).toNat := by
  rw [List.take_succ_eq_append_getElem hk, valL_snoc, List.getD_eq_getElem?_getD, List.getElem?_eq_getElem hk]; rfl
/-- The number of a text in two parts, and does it fit? -/
def numS (s : ByteArray) : Int := if dashB s = true then -(valL (strL (restS s)) : Int) else (valL (strL (restS s)) : Int)
def fitS (s : ByteArray) : Bool := decide (-9223372036854775808 ≤ numS s ∧ numS s ≤ 9223372036854775807)
theorem numS_num (s : ByteArray) : numS s = numL (strL s) := by
  unfold numS numL
  rw [restL]
  unfold dashB
  by_cases h : (strL s).getD 0 0 = 45
  · rw [decide_eq_true h, if_pos rfl, if_pos rfl, if_pos h]
  · rw [decide_eq_false h, if_neg (by decide), if_neg (by decide), if_neg h]
theorem tdiv_min (d : Int) (h0 : 0 ≤ d) (h1 : d ≤ 9) : (-9223372036854775808 + d).tdiv 10 = -((9223372036854775808 - d) / 10) := by
  rw [show -9223372036854775808 + d = -(9223372036854775808 - d) by omega, Int.neg_tdiv, Int.tdiv_eq_ediv_of_nonneg (by omega)]
set_option maxRecDepth 100000 in
set_option maxHeartbeats 1000000 in
theorem reckon_any (s : ByteArray) (w : World) (hs : s.size ≤ 9223372036854775807) (hD : AllD (strL (restS s))) :
    Calls Tryz.prog 167 #[.string s] w fun e w' => e = .returned (.tuple #[.int .i64 (if fitS s = true then numS s else 0), .bool (fitS s)]) ∧ w = w' := by
  have hrs := restS_size s
  have HP := Lib.hid (parts_any s w hs)
  have HV : Hid (numS s = if dashB s = true then -(valL (strL (restS s)) : Int) else (valL (strL (restS s)) : Int)) := Lib.hid rfl
  have HF : Hid (fitS s = decide (-9223372036854775808 ≤ numS s ∧ numS s ≤ 9223372036854775807)) := Lib.hid rfl
  obtain ⟨T, hT⟩ : ∃ T, T = restS s := ⟨_, rfl⟩
  obtain ⟨D, hDD⟩ : ∃ D, D = dashB s := ⟨_, rfl⟩
  obtain ⟨N, hN⟩ : ∃ N, N = numS s := ⟨_, rfl⟩
  obtain ⟨F, hF⟩ : ∃ F, F = fitS s := ⟨_, rfl⟩
  rw [← hT] at HP HV hD hrs
  rw [← hDD] at HP HV
  rw [← hN] at HV HF ⊢
  rw [← hF] at HF ⊢
  have HX : Hid ((F = true → (if F = true then N else 0) = N) ∧ (F = false → (if F = true then N else 0) = 0)) := Lib.hid ⟨fun h => if_pos h, fun h => if_neg (by rw [h]; decide)⟩
  obtain ⟨X, hX⟩ : ∃ X, X = if F = true then N else 0 := ⟨_, rfl⟩
  rw [← hX] at HX ⊢
  have HL := Lib.hid (length_strL T)
  have hts : T.size ≤ 9223372036854775807 := by omega
  have HD := Lib.hid hD
  clear hT hDD hN hF hD hrs hX
  go_enter Tryz.func167, Tryz.ntmps167
  go_wp2_with (go_at_call 163; refine HP.out.mono ?_; rintro e w' ⟨rfl, rfl⟩)
  go_loop [2, 15] (fun n i => ∃ k v : Nat, k ≤ T.size ∧ i = .int .i64 (k : Int) ∧ n = .int .i64 (-(v : Int)) ∧ v ≤ 9223372036854775808 ∧ v = valL ((strL T).take k)) (fun _ i => T.size - (intOf i).toNat)
  case atStart => exact ⟨0, 0, by omega, rfl, rfl, by omega, rfl⟩
  case round =>
    obtain ⟨k, v, hk, rfl, rfl, hv, hval⟩ := hrel
    have HVAL := Lib.hid hval
    clear hval
    by_cases hlt : k < T.size
    · have HG := Lib.hid (strL_get T k hlt)
      have hkl : k < (strL T).length := by rw [HL.out]; exact hlt
      have hdg := HD.out.at k hkl
      have HN := Lib.hid (take_val hkl)
      have hNle := valL_take_le (strL T) (k + 1)
      rw [HN.out, ← HVAL.out] at hNle
      obtain ⟨d, hd⟩ : ∃ d : Nat, (strL T).getD k 0 = 48 + (d : Int) := ⟨((strL T).getD k 0 - 48).toNat, by omega⟩
      rw [hd, show (48 + (d : Int) - 48).toNat = d by omega] at hNle
      have HN2 : Hid (valL ((strL T).take (k + 1)) = v * 10 + d) := Lib.hid (by rw [HN.out, hd, ← HVAL.out]; omega)
      have hc : ((T[k]'hlt).toNat : Int) = 48 + (d : Int) := by rw [← HG.out]; exact hd
      have hd9 : d ≤ 9 := by omega
      have ht := tdiv_min (d : Int) (by omega) (by omega)
      have HNLE := Lib.hid hNle
      have hsub : (48 + (d : Int)) - 48 = (d : Int) := by omega
      clear hd hdg hkl HN hNle
      by_cases hover : v * 10 + d ≤ 9223372036854775808
      · have hno : ¬ (-(v : Int)) < -((9223372036854775808 - (d : Int)) / 10) := by omega
        go_wp2
        go_round
        case rel => exact ⟨k + 1, v * 10 + d, by omega, by go_num, by congr 1; omega, hover, HN2.out.symm⟩
        case measure => simp [intOf]; omega
      · have hyes : (-(v : Int)) < -((9223372036854775808 - (d : Int)) / 10) := by omega
        have HR : Hid (F = false) := Lib.hid (by
          rw [HF.out, HV.out, decide_eq_false_iff_not]
          have := HNLE.out
          split <;> omega)
        go_wp2
        go_ret2
        rw [HX.out.2 HR.out, HR.out]
        exact ⟨rfl, rfl⟩
    · obtain rfl : k = T.size := by omega
      have HVV : Hid (v = valL (strL T)) := Lib.hid (by rw [HVAL.out, List.take_of_length_le (by rw [HL.out]; exact Nat.le_refl _)])
      cases D with
      | true =>
        have HR : Hid (F = true ∧ N = -(v : Int)) := Lib.hid (by
          have h := HV.out
          rw [if_pos rfl, ← HVV.out] at h
          exact ⟨by rw [HF.out, decide_eq_true_eq]; omega, h⟩)
        go_wp2
        go_ret2
        rw [HX.out.1 HR.out.1, HR.out.1, HR.out.2]
        exact ⟨rfl, rfl⟩
      | false =>
        have h := HV.out
        rw [if_neg (by decide), ← HVV.out] at h
        by_cases hm : v = 9223372036854775808
        · have HR : Hid (F = false) := Lib.hid (by rw [HF.out, decide_eq_false_iff_not]; omega)
          have hb : ((-(v : Int)) == -9223372036854775808) = true := by rw [beq_iff_eq]; omega
          clear h hm
          go_wp2
          go_ret2
          rw [HX.out.2 HR.out, HR.out]
          exact ⟨rfl, rfl⟩
        · have HR : Hid (F = true ∧ N = (v : Int)) := Lib.hid (by exact ⟨by rw [HF.out, decide_eq_true_eq]; omega, h⟩)
          have hb : ((-(v : Int)) == -9223372036854775808) = false := by rw [beq_eq_false_iff_ne]; omega
          have hv2 : (v : Int) ≤ 9223372036854775807 := by omega
          clear h hm
          go_wp2
          go_ret2
          rw [HX.out.1 HR.out.1, HR.out.1, HR.out.2]
          exact ⟨rfl, rfl⟩
end Go.Proofs.YtcjfealalokjaaaGreatDoor
