/- The reference's words against the program's. -/
import Derived.Test.YtdgpphihjeffcaaDoorShaEval
namespace Go.Proofs.YtdgpphihjeffcaaDoor
open Go Go.RowKit

/-- 'w<<8 | b' is 'w*256 + b'. -/
theorem or_byte (x y : Int) (hy : 0 ≤ y ∧ y ≤ 255) : bits .or .u32 (x * 256 % 4294967296) y = (x * 256 + y) % 4294967296 := by
  rw [oo_eq, oo]
  obtain ⟨a, ha⟩ : ∃ a : Nat, (a : Int) = x % 16777216 := ⟨(x % 16777216).toNat, by omega⟩
  obtain ⟨b, hb⟩ : ∃ b : Nat, (b : Int) = y := ⟨y.toNat, by omega⟩
  have e1 : (x * 256 % 4294967296 % 4294967296).toNat = a <<< 8 := by rw [Nat.shiftLeft_eq]; omega
  have e2 : (y % 4294967296).toNat = b := by omega
  rw [e1, e2]
  have h : Nat.lor (a <<< 8) b = a <<< 8 + b := (Nat.shiftLeft_add_eq_or_of_lt (by omega : b < 2 ^ 8) a).symm
  rw [h, Nat.shiftLeft_eq]
  show ((a * 2 ^ 8 + b : Nat) : Int) = _
  omega
/-- One of the first sixteen words, as the reference has it: behind i bytes. -/
def wordR (b : List Int) (t : Nat) : Nat → Int
  | 0 => 0
  | i + 1 => (wordR b t i * 256 + b.getD (4 * t + i) 0) % 4294967296
/-- The reference's words, behind n of them. -/
def wordsR (b : List Int) : Nat → List Int
  | 0 => []
  | n + 1 => wordsR b n ++ [if n < 16 then wordR b n 4 else nextw (wordsR b n) n]
@[simp] theorem length_wordsR (b : List Int) : ∀ n, (wordsR b n).length = n
  | 0 => rfl
  | n + 1 => by simp [wordsR, length_wordsR b n]
theorem accs_at (b : List Int) (hb : Bytes b) : ∀ k j, j < 64 → (accs b k).getD j 0 = if 4 * j + 4 ≤ k then wordR b j 4 else if 4 * j < k then wordR b j (k - 4 * j) else 0
  | 0, j, hj => by
    rw [if_neg (by omega), if_neg (by omega)]
    show (List.replicate 64 (0 : Int)).getD j 0 = 0
    rw [List.getD_eq_getElem?_getD, List.getElem?_replicate, if_pos hj]; rfl
  | k + 1, j, hj => by
    have ih := accs_at b hb k
    have hl := length_accs b k
    by_cases hjk : k / 4 = j
    · have h1 : (accs b (k + 1)).getD j 0 = bits .or .u32 ((accs b k).getD (k / 4) 0 * 256 % 4294967296) (b.getD k 0) := by
        rw [accs, List.getD_eq_getElem?_getD, List.getElem?_set, if_pos hjk, if_pos (by omega)]; rfl
      have h2 : (accs b k).getD (k / 4) 0 = wordR b j (k - 4 * j) := by
        rw [hjk, ih j hj, if_neg (by omega)]
        by_cases h : 4 * j < k
        · rw [if_pos h]
        · rw [if_neg h, show k - 4 * j = 0 by omega]; rfl
      rw [h1, h2, or_byte _ _ (hb k)]
      have h3 : (wordR b j (k - 4 * j) * 256 + b.getD k 0) % 4294967296 = wordR b j (k - 4 * j + 1) := by
        rw [wordR, show 4 * j + (k - 4 * j) = k by omega]
      rw [h3]
      by_cases h : 4 * j + 4 ≤ k + 1
      · rw [if_pos h, show k - 4 * j + 1 = 4 by omega]
      · rw [if_neg h, if_pos (by omega), show k + 1 - 4 * j = k - 4 * j + 1 by omega]
    · have h1 : (accs b (k + 1)).getD j 0 = (accs b k).getD j 0 := by
        rw [accs, List.getD_eq_getElem?_getD, List.getElem?_set, if_neg hjk, ← List.getD_eq_getElem?_getD]
      rw [h1, ih j hj]
      by_cases h : 4 * j + 4 ≤ k
      · rw [if_pos h, if_pos (by omega)]
      · rw [if_neg h, if_neg (by omega), if_neg (by omega), if_neg (by omega)]
theorem wordsR_get (b : List Int) : ∀ n j, j < n → j < 16 → (wordsR b n).getD j 0 = wordR b j 4
  | n + 1, j, hj, h16 => by
    rw [wordsR, List.getD_eq_getElem?_getD]
    by_cases h : j < n
    · rw [List.getElem?_append_left (by rw [length_wordsR]; exact h), ← List.getD_eq_getElem?_getD, wordsR_get b n j h h16]
    · obtain rfl : j = n := by omega
      rw [List.getElem?_append_right (by rw [length_wordsR]; omega), length_wordsR, Nat.sub_self, if_pos h16]; rfl
theorem nextw_take (L : List Int) (t m : Nat) (h16 : 16 ≤ t) (hm : t ≤ m) : nextw (L.take m) t = nextw L t := by
  have e : ∀ i, i < m → (L.take m).getD i 0 = L.getD i 0 := fun i hi => by
    rw [List.getD_eq_getElem?_getD, List.getD_eq_getElem?_getD, List.getElem?_take, if_pos hi]
  rw [nextw, nextw, e _ (by omega), e _ (by omega), e _ (by omega), e _ (by omega)]
theorem sched_take (b : List Int) (hb : Bytes b) : ∀ n, n ≤ 48 → (sched b n).take (16 + n) = wordsR b (16 + n)
  | 0, _ => by
    apply List.ext_getElem
    · simp [sched]
    · intro i h1 h2
      simp only [length_wordsR] at h2
      have ha := accs_at b hb 64 i (by omega)
      rw [if_pos (by omega)] at ha
      have hw := wordsR_get b 16 i (by omega) (by omega)
      have e1 : (accs b 64).getD i 0 = (accs b 64)[i]'(by rw [length_accs]; omega) := by simp [List.getD, show i < 64 by omega]
      have e2 : (wordsR b 16).getD i 0 = (wordsR b 16)[i]'(by rw [length_wordsR]; omega) := by simp [List.getD, show i < 16 by omega]
      rw [List.getElem_take]
      show (accs b 64)[i]'(by rw [length_accs]; omega) = (wordsR b 16)[i]'(by rw [length_wordsR]; omega)
      rw [← e1, ← e2, ha, hw]
  | n + 1, h => by
    have ih := sched_take b hb n (by omega)
    rw [sched, show 16 + (n + 1) = (16 + n) + 1 by omega, wordsR, if_neg (by omega), ← ih, nextw_take _ _ _ (by omega) (Nat.le_refl _), List.take_add_one, List.getElem?_set, if_pos rfl, if_pos (by rw [length_sched]; omega), List.take_set_of_le (Nat.le_refl _)]
    rfl
/-- THE REFERENCE's WORDS ARE THE PROGRAM's. -/
theorem sched_ref (b : List Int) (hb : Bytes b) : sched b 48 = wordsR b 64 := by
  rw [← sched_take b hb 48 (Nat.le_refl _), List.take_of_length_le (by rw [length_sched]; omega)]
end Go.Proofs.YtdgpphihjeffcaaDoor
