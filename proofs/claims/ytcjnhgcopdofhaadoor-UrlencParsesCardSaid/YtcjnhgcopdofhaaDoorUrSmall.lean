/- The walks of urlenc's small functions: worth, spell, isSpelled, at. -/
import Derived.Test.YtcjnhgcopdofhaaDoorUrMath
import Derived.Test.YtcjnhgcopdofhaaDoorKit4
import Derived.Test.YtcjnhgcopdofhaaDoorShelf
import Derived.Deep.QuietTactic
import Derived.BigQuiet
namespace Go.Proofs.YtcjnhgcopdofhaaDoor
open Go Go.RowKit

theorem hexW_index : ∀ n : Fin 256, (Lib.indexByte [48, 49, 50, 51, 52, 53, 54, 55, 56, 57, 65, 66, 67, 68, 69, 70] ((n.val : Int).toNat.toUInt8) : Int) = if 97 ≤ (n.val : Int) ∧ (n.val : Int) ≤ 102 then -1 else hexW n.val := by decide +kernel
theorem hexW_at (c : Int) (h0 : 0 ≤ c) (h1 : c ≤ 255) (h : ¬ (97 ≤ c ∧ c ≤ 102)) : (Lib.indexByte [48, 49, 50, 51, 52, 53, 54, 55, 56, 57, 65, 66, 67, 68, 69, 70] (c.toNat.toUInt8) : Int) = hexW c := by
  obtain ⟨n, rfl⟩ := Int.eq_ofNat_of_zero_le h0
  have := hexW_index ⟨n, by omega⟩
  simp only at this
  rw [this, if_neg h]
theorem hexW_small {c : Int} (h : 97 ≤ c ∧ c ≤ 102) : hexW (c - 32) = hexW c := by
  unfold hexW
  rw [if_neg (by omega), if_pos (by omega), if_neg (by omega), if_neg (by omega), if_pos h]; omega
set_option maxRecDepth 100000 in
theorem uWorth_any (c : Int) (w : World) (h0 : 0 ≤ c) (h1 : c ≤ 255) :
    Calls Tryd.prog 48 #[.int .u8 c] w fun e w' => e = .returned (.int .i64 (hexW c)) ∧ w = w' := by
  by_cases a : 97 ≤ c
  · by_cases b : c ≤ 102
    · have HW := Lib.hid ((hexW_at (c - 32) (by omega) (by omega) (by omega)).trans (hexW_small ⟨a, b⟩))
      go_enter Tryd.func48, Tryd.ntmps48
      go_wp2_with (go_at_call 60; refine (Tryd.strings_IndexByte _ _ _).mono ?_; rintro e w' ⟨rfl, rfl⟩)
      go_ret
      exact ⟨ret_int HW.out, rfl⟩
    · have HW := Lib.hid (hexW_at c h0 h1 (by omega))
      go_enter Tryd.func48, Tryd.ntmps48
      go_wp2_with (go_at_call 60; refine (Tryd.strings_IndexByte _ _ _).mono ?_; rintro e w' ⟨rfl, rfl⟩)
      go_ret
      exact ⟨ret_int HW.out, rfl⟩
  · have HW := Lib.hid (hexW_at c h0 h1 (by omega))
    go_enter Tryd.func48, Tryd.ntmps48
    go_wp2_with (go_at_call 60; refine (Tryd.strings_IndexByte _ _ _).mono ?_; rintro e w' ⟨rfl, rfl⟩)
    go_ret
    exact ⟨ret_int HW.out, rfl⟩

/-! ### spell -/
theorem lies_one (w : World) (c : Int) (t : TypeId) : Lies (w.alloc (.cells #[.int .u8 c] t)) (some ⟨w.heap.size, 0, none⟩) [c] := Lies.lit w [c] t (0, 0)
set_option maxRecDepth 100000 in
set_option maxHeartbeats 1000000 in
theorem spell_self (c : Int) (w : World) (h0 : 0 ≤ c) (h1 : c ≤ 255) (hs : selfB c = true) :
    Calls Tryd.prog 34 #[.int .u8 c] w fun e w' => e = .returned (.string (toS [c])) ∧ Below w.heap.size w w' := by
  have hcv := conv_str (some ⟨w.heap.size, 0, none⟩) [c] 1 1 (w.alloc (.cells #[.int .u8 c] 5)) rfl (lies_one w c _)
  have hsp : (65 ≤ c ∧ c ≤ 90) ∨ (97 ≤ c ∧ c ≤ 122) ∨ (48 ≤ c ∧ c ≤ 57) ∨ c = 42 ∨ c = 45 ∨ c = 46 ∨ c = 95 := of_decide_eq_true hs
  have HB := Lib.hid (belowAlloc w (.cells #[.int .u8 c] 5))
  clear hs
  rcases hsp with ⟨a, b⟩ | ⟨a, b⟩ | ⟨a, b⟩ | rfl | rfl | rfl | rfl
  · go_enter Tryd.func34, Tryd.ntmps34
    go_wp2
    go_ret
    exact ⟨rfl, HB.out⟩
  · have a1 : 65 ≤ c := by omega
    have a2 : ¬ c ≤ 90 := by omega
    go_enter Tryd.func34, Tryd.ntmps34
    go_wp2
    go_ret
    exact ⟨rfl, HB.out⟩
  · have a1 : ¬ 65 ≤ c := by omega
    have a2 : ¬ 97 ≤ c := by omega
    go_enter Tryd.func34, Tryd.ntmps34
    go_wp2
    go_ret
    exact ⟨rfl, HB.out⟩
  all_goals
    go_enter Tryd.func34, Tryd.ntmps34
    go_wp2
    go_ret
    exact ⟨rfl, HB.out⟩
theorem not_self {c : Int} (h : selfB c = false) : ¬ (65 ≤ c ∧ c ≤ 90) ∧ ¬ (97 ≤ c ∧ c ≤ 122) ∧ ¬ (48 ≤ c ∧ c ≤ 57) ∧ c ≠ 42 ∧ c ≠ 45 ∧ c ≠ 46 ∧ c ≠ 95 := by
  have := of_decide_eq_false h; omega
set_option maxRecDepth 100000 in
set_option maxHeartbeats 1000000 in
theorem spell_blank (w : World) : Calls Tryd.prog 34 #[.int .u8 32] w fun e w' => e = .returned (.string (toS [43])) ∧ Below w.heap.size w w' := by
  have hcv := conv_str (some ⟨w.heap.size, 0, none⟩) [43] 1 1 (w.alloc (.cells #[.int .u8 43] 5)) rfl (lies_one w 43 _)
  have HB := Lib.hid (belowAlloc w (.cells #[.int .u8 43] 5))
  go_enter Tryd.func34, Tryd.ntmps34
  go_wp2
  go_ret
  exact ⟨rfl, HB.out⟩
def hexA : Array UInt8 := #[48, 49, 50, 51, 52, 53, 54, 55, 56, 57, 65, 66, 67, 68, 69, 70]
theorem hex_at : ∀ n : Fin 16, hexA[n.val]?.map (fun b => (b.toNat : Int)) = some (hexU (n.val : Int)) := by decide +kernel
theorem index_hex (k : IntKind) (n : Int) (h0 : 0 ≤ n) (h1 : n < 16) (w : World) : (Instr.index 9 (.string { data := #[48, 49, 50, 51, 52, 53, 54, 55, 56, 57, 65, 66, 67, 68, 69, 70] }) (.int k n)).run Tryd.prog w = .ok (.int .u8 (hexU n)) w := by
  obtain ⟨m, rfl⟩ := Int.eq_ofNat_of_zero_le h0
  have hm : m < 16 := by omega
  obtain ⟨b, hb, hb2⟩ := Option.map_eq_some_iff.1 (hex_at ⟨m, hm⟩)
  simp only at hb hb2
  have hs : m < hexA.size := hm
  show (Instr.index 9 (.string ⟨hexA⟩) (.int k (m : Int))).run Tryd.prog w = _
  have hq : (if (0 : Int) ≤ (m : Int) then (⟨hexA⟩ : ByteArray)[(m : Int).toNat]? else none) = some b := by
    rw [if_pos (by omega), Int.toNat_natCast, getElem?_pos (⟨hexA⟩ : ByteArray) m hs, ← hb, Array.getElem?_eq_getElem hs]
    rfl
  simp only [Instr.index, asIntOf, Sem.run_bind, Sem.run_pure, Result.andThen_ok, run_underlying Tryd.underlying9]
  rw [hq]
  simp only [Sem.run_pure, hb2]
theorem and15_tab : ∀ n : Fin 256, bits .and .u8 (n.val : Int) 15 = (n.val : Int) % 16 := by decide +kernel
theorem and_15 (x : Int) (h0 : 0 ≤ x) (h1 : x ≤ 255) : bits .and .u8 x 15 = x % 16 := by
  obtain ⟨m, rfl⟩ := Int.eq_ofNat_of_zero_le h0
  exact and15_tab ⟨m, by omega⟩
theorem lies_three (w : World) (a b c : Int) (t : TypeId) : Lies (w.alloc (.cells #[.int .u8 a, .int .u8 b, .int .u8 c] t)) (some ⟨w.heap.size, 0, none⟩) [a, b, c] := Lies.lit w [a, b, c] t (0, 0)
set_option maxRecDepth 100000 in
set_option maxHeartbeats 1000000 in
theorem spell_sign (c : Int) (w : World) (h0 : 0 ≤ c) (h1 : c ≤ 255) (hs : selfB c = false) (hb : c ≠ 32) :
    Calls Tryd.prog 34 #[.int .u8 c] w fun e w' => e = .returned (.string (toS [37, hexU (c / 16), hexU (c % 16)])) ∧ Below w.heap.size w w' := by
  obtain ⟨n1, n2, n3, n4, n5, n6, n7⟩ := not_self hs
  have q1 : (c == 42) = false := by simp [n4]
  have q2 : (c == 45) = false := by simp [n5]
  have q3 : (c == 46) = false := by simp [n6]
  have q4 : (c == 95) = false := by simp [n7]
  have q5 : (c == 32) = false := by simp [hb]
  have e1 := and_15 c h0 h1
  have i1 := index_hex .u8 (c / 16) (by omega) (by omega)
  have i2 := index_hex .u8 (c % 16) (by omega) (by omega)
  have hcv : ∀ a b : Int, (convert 62 9 (.slice (some ⟨w.heap.size, 0, none⟩) 3 3)).run Tryd.prog (w.alloc (.cells #[.int .u8 37, .int .u8 a, .int .u8 b] 5)).drew = .ok (.string (toS [37, a, b])) (w.alloc (.cells #[.int .u8 37, .int .u8 a, .int .u8 b] 5)).drew := fun a b => conv_str _ [37, a, b] 3 3 _ rfl (lies_three w 37 a b _)
  have HB := Lib.hid (fun a b : Int => belowAlloc w (.cells #[.int .u8 37, .int .u8 a, .int .u8 b] 5))
  have hcv2 := hcv (hexU (c / 16)) (hexU (c % 16))
  have hsplit : c < 48 ∨ (58 ≤ c ∧ c ≤ 64) ∨ (91 ≤ c ∧ c ≤ 96) ∨ 123 ≤ c := by omega
  clear hs hb n1 n2 n3 n4 n5 n6 n7 hcv
  have key : ∀ (p1 : ¬ 65 ≤ c ∨ 65 ≤ c ∧ ¬ c ≤ 90) (p2 : ¬ 97 ≤ c ∨ 97 ≤ c ∧ ¬ c ≤ 122) (p3 : ¬ 48 ≤ c ∨ 48 ≤ c ∧ ¬ c ≤ 57), Calls Tryd.prog 34 #[.int .u8 c] w fun e w' => e = .returned (.string (toS [37, hexU (c / 16), hexU (c % 16)])) ∧ Below w.heap.size w w' := by
    rintro (a1 | ⟨a1, a2⟩) (b1 | ⟨b1, b2⟩) (c1 | ⟨c1, c2⟩)
    all_goals first
      | (exfalso; omega)
      | (go_enter Tryd.func34, Tryd.ntmps34
         go_wp2
         go_region
         all_goals (go_wp2; go_ret; exact ⟨rfl, (HB.out _ _).drew⟩))
  exact key (by omega) (by omega) (by omega)
theorem uSpell_any (c : Int) (w : World) (h0 : 0 ≤ c) (h1 : c ≤ 255) :
    Calls Tryd.prog 34 #[.int .u8 c] w fun e w' => e = .returned (.string (toS (spellB c))) ∧ Below w.heap.size w w' := by
  unfold spellB
  cases hs : selfB c with
  | true => rw [if_pos rfl]; exact spell_self c w h0 h1 hs
  | false =>
    rw [if_neg (by simp)]
    by_cases hb : c = 32
    · subst hb; rw [if_pos rfl]; exact spell_blank w
    · rw [if_neg hb]; exact spell_sign c w h0 h1 hs hb
end Go.Proofs.YtcjnhgcopdofhaaDoor
