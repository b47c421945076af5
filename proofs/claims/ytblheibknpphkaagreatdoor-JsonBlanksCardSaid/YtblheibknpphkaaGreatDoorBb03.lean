/- JsonLawK1: merged. -/
import Derived.Laws.Concat
import Derived.Test.YtblheibknpphkaaGreatDoorBa01
import Derived.Test.YtblheibknpphkaaGreatDoorBa11
import Derived.Test.YtblheibknpphkaaGreatDoorBb01
import Derived.Test.YtblheibknpphkaaGreatDoorBb02
set_option linter.all false
namespace Go.Proofs.YtblheibknpphkaaGreatDoor
open Go Go.RowKit
def bl4 (r : Int) : Int := if r = 0 then 32 else if r = 1 then 9 else if r = 2 then 10 else 13
def blkL (n : Int) : Nat → List Int
  | 0 => []
  | k + 1 => blkL n k ++ [bl4 (((k : Int) + n) % 4)]
theorem blkL_len (n : Int) : ∀ k, (blkL n k).length = k
  | 0 => rfl
  | k + 1 => by rw [blkL, List.length_append, blkL_len n k]; rfl
theorem bl4_blank (r : Int) : isB (bl4 r) = true ∧ 0 ≤ bl4 r ∧ bl4 r ≤ 255 := by
  unfold bl4
  split
  · decide
  split
  · decide
  split
  · decide
  · decide
theorem blkL_blank (n : Int) : ∀ k, Blank (blkL n k)
  | 0 => fun x hx => by cases hx
  | k + 1 => fun x hx => by
    rw [blkL] at hx
    rcases List.mem_append.1 hx with hx | hx
    · exact blkL_blank n k x hx
    · rw [List.mem_singleton] at hx; rw [hx]; exact (bl4_blank _).1
theorem blkL_by (n : Int) : ∀ k, Bytes (blkL n k)
  | 0 => .of_mem (by simp [blkL])
  | k + 1 => by
    rw [blkL]
    exact (blkL_by n k).append (.of_mem fun x hx => by rw [List.mem_singleton] at hx; rw [hx]; exact (bl4_blank _).2)
set_option maxRecDepth 100000 in
set_option maxHeartbeats 4000000 in
theorem blank_any (n : Int) (w : World) (h0 : 0 ≤ n) (h1 : n ≤ 255) : Calls Tryz.prog 22 #[.int .u8 n] w fun e w' => e = .returned (.string (toS (blkL n (n % 9).toNat))) ∧ Below w.heap.size w w' := by
  obtain ⟨m, hm⟩ : ∃ m : Nat, (m : Int) = n % 9 := ⟨(n % 9).toNat, by omega⟩
  have e9 : n.tmod 9 = (m : Int) := by rw [Int.tmod_eq_emod_of_nonneg h0]; exact hm.symm
  have hm9 : m ≤ 8 := by omega
  have HR : Hid ((n % 9).toNat = m) := Lib.hid (by omega)
  rw [HR.out]
  have hc0 := fun (x : Int) (W : World) => conv_lit x W
  clear hm
  go_enter Tryz.func22, Tryz.ntmps22
  go_wp2
  go_loopw [3, 4] (fun v i wr => ∃ k : Nat, k ≤ m ∧ i = .int .i64 (k : Int) ∧ v = .string (toS (blkL n k)) ∧ Below w.heap.size w wr) (fun _ i _ => m - (intOf i).toNat)
  case atStart => exact ⟨0, Nat.zero_le _, rfl, rfl, Below.refl _ _⟩
  case round =>
    obtain ⟨k, hk, rfl, rfl, hbel⟩ := hrel
    have HBE := Lib.hid hbel
    obtain ⟨T, hT⟩ : ∃ T, T = toS (blkL n k) := ⟨_, rfl⟩
    have hTs : T.size ≤ 8 := by rw [hT, size_toS, blkL_len]; omega
    have HT := Lib.hid hT
    rw [← hT]
    clear hbel hT
    by_cases hlt : k < m
    · have hlt2 : (k : Int) < (m : Int) := by omega
      have hst : ∀ r : Int, ((k : Int) + n) % 4 = r → ∀ x, bl4 r = x → T ++ toS [x] = toS (blkL n (k + 1)) := fun r hr x hx => by
        rw [HT.out, toS_append (blkL_by n k) (.of_mem fun y hy => by rw [List.mem_singleton] at hy; rw [hy, ← hx]; exact (bl4_blank r).2), blkL, hr, hx]
      have HST := Lib.hid hst
      have hsum : 0 ≤ (k : Int) + n ∧ (k : Int) + n ≤ 300 := by omega
      have ht4 : ((k : Int) + n).tmod 4 = ((k : Int) + n) % 4 := Int.tmod_eq_emod_of_nonneg hsum.1
      have h4 : ((k : Int) + n) % 4 = 0 ∨ ((k : Int) + n) % 4 = 1 ∨ ((k : Int) + n) % 4 = 2 ∨ ((k : Int) + n) % 4 = 3 := by omega
      clear hst
      rcases h4 with h4 | h4 | h4 | h4
      · have HN := Lib.hid (HST.out 0 h4 32 rfl)
        rw [h4] at ht4
        have hsz : (toS [32]).size = 1 := rfl
        obtain ⟨X, hX⟩ : ∃ X, X = toS [32] := ⟨_, rfl⟩
        have hcv := fun W => conv_lit ((((⟨#[32, 9, 10, 13]⟩ : ByteArray)[0]'(by decide)).toNat : Nat) : Int) W
        rw [show toS [((((⟨#[32, 9, 10, 13]⟩ : ByteArray)[0]'(by decide)).toNat : Nat) : Int)] = toS [32] from rfl, ← hX] at hcv
        rw [← hX] at hsz HN
        have r0 := fun W : World => run_string_add_sum (P := Tryz.prog) (w := W) T X (by omega)
        have r1 : T.size + X.size ≤ 9223372036854775807 := by omega
        clear hX hc0 h4
        go_wp2
        exact ⟨⟨k + 1, by omega, by go_num, by rw [HN.out], HBE.out.trans ((belowAlloc wr _).mono HBE.out.size)⟩, by simp [intOf]; omega⟩
      · have HN := Lib.hid (HST.out 1 h4 9 rfl)
        rw [h4] at ht4
        have hsz : (toS [9]).size = 1 := rfl
        obtain ⟨X, hX⟩ : ∃ X, X = toS [9] := ⟨_, rfl⟩
        have hcv := fun W => conv_lit ((((⟨#[32, 9, 10, 13]⟩ : ByteArray)[1]'(by decide)).toNat : Nat) : Int) W
        rw [show toS [((((⟨#[32, 9, 10, 13]⟩ : ByteArray)[1]'(by decide)).toNat : Nat) : Int)] = toS [9] from rfl, ← hX] at hcv
        rw [← hX] at hsz HN
        have r0 := fun W : World => run_string_add_sum (P := Tryz.prog) (w := W) T X (by omega)
        have r1 : T.size + X.size ≤ 9223372036854775807 := by omega
        clear hX hc0 h4
        go_wp2
        exact ⟨⟨k + 1, by omega, by go_num, by rw [HN.out], HBE.out.trans ((belowAlloc wr _).mono HBE.out.size)⟩, by simp [intOf]; omega⟩
      · have HN := Lib.hid (HST.out 2 h4 10 rfl)
        rw [h4] at ht4
        have hsz : (toS [10]).size = 1 := rfl
        obtain ⟨X, hX⟩ : ∃ X, X = toS [10] := ⟨_, rfl⟩
        have hcv := fun W => conv_lit ((((⟨#[32, 9, 10, 13]⟩ : ByteArray)[2]'(by decide)).toNat : Nat) : Int) W
        rw [show toS [((((⟨#[32, 9, 10, 13]⟩ : ByteArray)[2]'(by decide)).toNat : Nat) : Int)] = toS [10] from rfl, ← hX] at hcv
        rw [← hX] at hsz HN
        have r0 := fun W : World => run_string_add_sum (P := Tryz.prog) (w := W) T X (by omega)
        have r1 : T.size + X.size ≤ 9223372036854775807 := by omega
        clear hX hc0 h4
        go_wp2
        exact ⟨⟨k + 1, by omega, by go_num, by rw [HN.out], HBE.out.trans ((belowAlloc wr _).mono HBE.out.size)⟩, by simp [intOf]; omega⟩
      · have HN := Lib.hid (HST.out 3 h4 13 rfl)
        rw [h4] at ht4
        have hsz : (toS [13]).size = 1 := rfl
        obtain ⟨X, hX⟩ : ∃ X, X = toS [13] := ⟨_, rfl⟩
        have hcv := fun W => conv_lit ((((⟨#[32, 9, 10, 13]⟩ : ByteArray)[3]'(by decide)).toNat : Nat) : Int) W
        rw [show toS [((((⟨#[32, 9, 10, 13]⟩ : ByteArray)[3]'(by decide)).toNat : Nat) : Int)] = toS [13] from rfl, ← hX] at hcv
        rw [← hX] at hsz HN
        have r0 := fun W : World => run_string_add_sum (P := Tryz.prog) (w := W) T X (by omega)
        have r1 : T.size + X.size ≤ 9223372036854775807 := by omega
        clear hX hc0 h4
        go_wp2
        exact ⟨⟨k + 1, by omega, by go_num, by rw [HN.out], HBE.out.trans ((belowAlloc wr _).mono HBE.out.size)⟩, by simp [intOf]; omega⟩
    · obtain rfl : k = m := by omega
      have hge : ¬ (k : Int) < (k : Int) := by omega
      go_wp2
      go_ret
      exact ⟨by rw [HT.out]; rfl, HBE.out⟩
end Go.Proofs.YtblheibknpphkaaGreatDoor
