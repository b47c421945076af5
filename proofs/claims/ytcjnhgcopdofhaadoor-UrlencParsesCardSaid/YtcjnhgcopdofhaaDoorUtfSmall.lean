/- The walks of package utf's small functions: sizeOf, tail, wanted, spell, Put. -/
import Derived.Test.YtcjnhgcopdofhaaDoorUtfMath
import Derived.Test.YtcjnhgcopdofhaaDoorKit4
import Derived.WalkLawsBesides
import Derived.WalkSpells
import Derived.Handy
import Derived.RegionTactic
import Derived.BigQuiet
import Derived.Deep.QuietTactic
import Derived.Deep.RegionHeld3
import Derived.StillTailTactics
namespace Go.Proofs.YtcjnhgcopdofhaaDoor
open Go Go.RowKit

/-- The table of first marks. -/
abbrev Marks (w : World) : Prop := Blk w 4 129 (ints .i64 [0, 0, 192, 224, 240])
theorem Marks.below {w w' : World} (h : Marks w) (hb : Below w.heap.size w w') : Marks w' := Blk.below h hb h.lt
theorem marks_cell {w : World} (h : Marks w) (k : Nat) (hk : k < 5) : w.cell? ⟨4, k, none⟩ = some (.int .i64 (markL k)) := by
  rw [Blk.cell h]
  match k, hk with
  | 0, _ => rfl
  | 1, _ => rfl
  | 2, _ => rfl
  | 3, _ => rfl
  | 4, _ => rfl

/-! ### sizeOf -/
theorem size_facts (n : Int) : ∃ k : Nat, k = (putL n).length ∧ k ≤ 4 ∧ (n < 0 → k = 0) ∧ (1114112 ≤ n → k = 0) ∧ (55296 ≤ n → n < 57344 → k = 0) ∧ (0 ≤ n → n < 128 → k = 1) ∧ (128 ≤ n → n < 2048 → k = 2) ∧ (2048 ≤ n → n < 55296 → k = 3) ∧ (57344 ≤ n → n < 65536 → k = 3) ∧ (65536 ≤ n → n < 1114112 → k = 4) := by
  refine ⟨_, rfl, putL_len n, ?_⟩
  rcases putL_cases n with ⟨h, h'⟩ | ⟨h1, h2, h⟩ | ⟨h1, h2, h⟩ | ⟨h1, h2, h3, h⟩ | ⟨h1, h2, h⟩ <;> rw [h] <;> simp only [List.length_cons, List.length_nil, Nat.zero_add, Nat.reduceAdd] <;> refine ⟨?_, ?_, ?_, ?_, ?_, ?_, ?_, ?_⟩ <;> intros <;> first | trivial | omega
set_option maxHeartbeats 400000 in
theorem sizeOf_any (n : Int) (w : World) :
    Calls Tryd.prog 67 #[.int .i64 n] w fun e w' => e = .returned (.int .i64 (((putL n).length : Nat) : Int)) ∧ w = w' := by
  obtain ⟨k, hk, hf⟩ := size_facts n
  rw [← hk]
  have HF := Lib.hid hf
  clear hk hf
  go_enter Tryd.func67, Tryd.ntmps67
  go_wp2
  all_goals go_ret
  all_goals exact ⟨ret_int (by have := HF.out; omega), rfl⟩

/-! ### tail -/
theorem or_128 (n : Int) (h : 0 ≤ n ∧ n < 64) : bits .or .i64 128 n = 128 + n := or_above 1 n 7 h.1 (by omega) (by decide) (by omega)
theorem tail_any (n : Int) (w : World) (h0 : 0 ≤ n) (h1 : n ≤ 9223372036854775807) :
    Calls Tryd.prog 81 #[.int .i64 n] w fun e w' => e = .returned (.int .u8 (128 + n % 64)) ∧ w = w' := by
  have e1 := and_mask_i64 n 6 (by decide) h0 (by omega)
  replace e1 : bits .and .i64 n 63 = n % 64 := e1
  have e2 := or_128 (n % 64) (by omega)
  go_enter Tryd.func81, Tryd.ntmps81
  go_wp2
  go_ret
  exact ⟨ret_int (by omega), rfl⟩

/-! ### wanted -/
set_option maxHeartbeats 400000 in
theorem wanted_any (c : Int) (w : World) (hm : Marks w) (h0 : 0 ≤ c) (h1 : c ≤ 255) :
    Calls Tryd.prog 78 #[.int .u8 c] w fun e w' => e = .returned (.int .i64 (((wantL c - 1 : Nat) : Int))) ∧ w = w' := by
  have m4 : w.cell? ⟨4, 4, none⟩ = some (.int .i64 240) := marks_cell hm 4 (by decide)
  have m3 : w.cell? ⟨4, 3, none⟩ = some (.int .i64 224) := marks_cell hm 3 (by decide)
  have m2 : w.cell? ⟨4, 2, none⟩ = some (.int .i64 192) := marks_cell hm 2 (by decide)
  have hf : (240 ≤ c → wantL c = 4) ∧ (224 ≤ c → c < 240 → wantL c = 3) ∧ (192 ≤ c → c < 224 → wantL c = 2) ∧ (c < 192 → wantL c = 1) := by
    unfold wantL
    refine ⟨fun h => if_pos h, fun h h' => ?_, fun h h' => ?_, fun h => ?_⟩
    · rw [if_neg (by omega), if_pos h]
    · rw [if_neg (by omega), if_neg (by omega), if_pos h]
    · rw [if_neg (by omega), if_neg (by omega), if_neg (by omega)]
  obtain ⟨k, hk⟩ : ∃ k, k = wantL c := ⟨_, rfl⟩
  rw [← hk] at hf ⊢
  have HF := Lib.hid hf
  clear hk hf hm
  go_enter Tryd.func78, Tryd.ntmps78
  go_wp2
  all_goals go_ret
  all_goals exact ⟨ret_int (by have := HF.out; omega), rfl⟩
end Go.Proofs.YtcjnhgcopdofhaaDoor
