/- The reference's bytes of a text, bit by bit, are the program's. -/
import Derived.Test.YtdgpphihjeffcaaDoorB64Math
namespace Go.Proofs.YtdgpphihjeffcaaDoor
open Go Go.RowKit

def bitD (l : List Int) (p : Nat) : Int := wo (l.getD (p / 6) 0) / 2 ^ (5 - p % 6) % 2
def bitsD (l : List Int) : Nat → List Int
  | 0 => []
  | m + 1 => bitsD l m ++ [bitD l m]
@[simp] theorem length_bitsD (l : List Int) : ∀ m, (bitsD l m).length = m
  | 0 => rfl
  | m + 1 => by simp [bitsD, length_bitsD l m]
theorem bitsD_get (l : List Int) : ∀ (m p : Nat), p < m → (bitsD l m)[p]? = some (bitD l p)
  | 0, p, h => absurd h (by omega)
  | m + 1, p, h => by
    rcases Nat.lt_or_ge p m with h1 | h1
    · rw [bitsD, List.getElem?_append_left (by rw [length_bitsD]; exact h1)]; exact bitsD_get l m p h1
    · obtain rfl : p = m := by omega
      rw [bitsD, List.getElem?_append_right (by rw [length_bitsD]; exact Nat.le_refl _), length_bitsD, Nat.sub_self]; rfl
theorem bitD_bd (l : List Int) (p : Nat) : 0 ≤ bitD l p ∧ bitD l p ≤ 1 := by unfold bitD; omega
def accD (l : List Int) (p : Nat) : Nat → Int
  | 0 => 0
  | k + 1 => 2 * accD l p k + bitD l (p + k)
theorem accD_bd (l : List Int) (p : Nat) : ∀ k, 0 ≤ accD l p k ∧ accD l p k < 2 ^ k
  | 0 => ⟨Int.le_refl _, by show (0 : Int) < 2 ^ 0; decide⟩
  | k + 1 => by
    have h := accD_bd l p k
    have hb := bitD_bd l (p + k)
    rw [accD, Int.pow_succ]
    omega
def outD (l : List Int) : Nat → List Int
  | 0 => []
  | j + 1 => outD l j ++ [accD l (8 * j) 8]
@[simp] theorem length_outD (l : List Int) : ∀ j, (outD l j).length = j
  | 0 => rfl
  | j + 1 => by simp [outD, length_outD l j]
theorem bitD_four (a b c d : Int) (r : List Int) (p : Nat) : bitD (a :: b :: c :: d :: r) (p + 24) = bitD r p := by
  unfold bitD
  rw [show (p + 24) / 6 = p / 6 + 4 by omega, show (p + 24) % 6 = p % 6 by omega]
  rfl
theorem accD_four (a b c d : Int) (r : List Int) (p : Nat) : ∀ k, accD (a :: b :: c :: d :: r) (p + 24) k = accD r p k
  | 0 => rfl
  | k + 1 => by rw [accD, accD, accD_four a b c d r p k, show p + 24 + k = p + k + 24 by omega, bitD_four]
theorem acc_of (l : List Int) (p : Nat) : accD l p 8 = 128 * bitD l p + 64 * bitD l (p + 1) + 32 * bitD l (p + 2) + 16 * bitD l (p + 3) + 8 * bitD l (p + 4) + 4 * bitD l (p + 5) + 2 * bitD l (p + 6) + bitD l (p + 7) := by
  simp only [accD, Nat.add_zero]; omega
theorem acc_0 (a b : Int) (r : List Int) (ha : 0 ≤ wo a ∧ wo a < 64) (hb : 0 ≤ wo b ∧ wo b < 64) : accD (a :: b :: r) 0 8 = wo a * 4 + wo b / 16 := by
  rw [acc_of]
  simp only [bitD, List.getD_eq_getElem?_getD, Nat.reduceAdd, Nat.reduceDiv, Nat.reduceMod, Nat.reduceSub, List.getElem?_cons_zero, List.getElem?_cons_succ, Option.getD_some, Int.reducePow]
  omega
theorem acc_8 (a b c : Int) (r : List Int) (_hb : 0 ≤ wo b ∧ wo b < 64) (hc : 0 ≤ wo c ∧ wo c < 64) : accD (a :: b :: c :: r) 8 8 = wo b % 16 * 16 + wo c / 4 := by
  rw [acc_of]
  simp only [bitD, List.getD_eq_getElem?_getD, Nat.reduceAdd, Nat.reduceDiv, Nat.reduceMod, Nat.reduceSub, List.getElem?_cons_zero, List.getElem?_cons_succ, Option.getD_some, Int.reducePow]
  omega
theorem acc_16 (a b c d : Int) (r : List Int) (_hc : 0 ≤ wo c ∧ wo c < 64) (hd : 0 ≤ wo d ∧ wo d < 64) : accD (a :: b :: c :: d :: r) 16 8 = wo c % 4 * 64 + wo d := by
  rw [acc_of]
  simp only [bitD, List.getD_eq_getElem?_getD, Nat.reduceAdd, Nat.reduceDiv, Nat.reduceMod, Nat.reduceSub, List.getElem?_cons_zero, List.getElem?_cons_succ, Option.getD_some, Int.reducePow]
  omega
theorem out_four (a b c d : Int) (r : List Int) (ha : 0 ≤ wo a ∧ wo a < 64) (hb : 0 ≤ wo b ∧ wo b < 64) (hc : 0 ≤ wo c ∧ wo c < 64) (hd : 0 ≤ wo d ∧ wo d < 64) :
    ∀ j, outD (a :: b :: c :: d :: r) (j + 3) = (wo a * 4 + wo b / 16) :: (wo b % 16 * 16 + wo c / 4) :: (wo c % 4 * 64 + wo d) :: outD r j
  | 0 => by
    simp only [outD, Nat.mul_zero, Nat.mul_one, Nat.reduceMul, acc_0 a b _ ha hb, acc_8 a b c _ hb hc, acc_16 a b c d _ hc hd, List.nil_append, List.cons_append]
  | j + 1 => by
    rw [show j + 1 + 3 = (j + 3) + 1 by omega, outD, out_four a b c d r ha hb hc hd j, outD, show 8 * (j + 3) = 8 * j + 24 by omega, accD_four]
    rfl
theorem good_bd {l : List Int} (h : ∀ k, k < l.length → wo (l.getD k 0) ≠ 64) (k : Nat) (hk : k < l.length) : 0 ≤ wo (l.getD k 0) ∧ wo (l.getD k 0) < 64 := by
  have := h k hk
  have := wo_bd (l.getD k 0)
  omega
theorem outD_dec : ∀ (l : List Int), (∀ k, k < l.length → wo (l.getD k 0) ≠ 64) → outD l (l.length * 6 / 8) = decL l
  | [], _ => rfl
  | [a], _ => by
    have e : [a].length * 6 / 8 = 0 := by simp
    rw [e]; rfl
  | [a, b], h => by
    have e : [a, b].length * 6 / 8 = 1 := by simp
    have ha := good_bd h 0 (by simp)
    have hb := good_bd h 1 (by simp)
    rw [e]
    simp only [outD, Nat.mul_zero, decL, acc_0 a b [] ha hb, List.nil_append]
  | [a, b, c], h => by
    have e : [a, b, c].length * 6 / 8 = 2 := by simp
    have ha := good_bd h 0 (by simp)
    have hb := good_bd h 1 (by simp)
    have hc := good_bd h 2 (by simp)
    rw [e]
    simp only [outD, Nat.mul_zero, Nat.mul_one, decL, acc_0 a b [c] ha hb, acc_8 a b c [] hb hc, List.nil_append, List.cons_append]
  | a :: b :: c :: d :: r, h => by
    have e : (a :: b :: c :: d :: r).length * 6 / 8 = r.length * 6 / 8 + 3 := by simp only [List.length_cons]; omega
    rw [e, out_four a b c d r (good_bd h 0 (by simp)) (good_bd h 1 (by simp)) (good_bd h 2 (by simp)) (good_bd h 3 (by simp)), outD_dec r fun k hk => h (k + 4) (by simp; omega)]
    rfl
/-- The bits behind the last whole byte. -/
theorem last_bits (l : List Int) (h : l.length % 4 = 2 ∨ l.length % 4 = 3) (hz : ∀ p, l.length * 6 / 8 * 8 ≤ p → p < 6 * l.length → bitD l p = 0) : looseL l = 0 := by
  unfold looseL
  obtain ⟨n, hn⟩ : ∃ n, n = l.length := ⟨_, rfl⟩
  rw [← hn] at h hz ⊢
  have hb := wo_bd (l.getD (n - 1) 0)
  rcases h with h | h
  · rw [if_pos h]
    have h0 := hz (6 * (n - 1) + 2) (by omega) (by omega)
    have h1 := hz (6 * (n - 1) + 3) (by omega) (by omega)
    have h2 := hz (6 * (n - 1) + 4) (by omega) (by omega)
    have h3 := hz (6 * (n - 1) + 5) (by omega) (by omega)
    unfold bitD at h0 h1 h2 h3
    rw [show (6 * (n - 1) + 2) / 6 = n - 1 by omega, show (6 * (n - 1) + 2) % 6 = 2 by omega] at h0
    rw [show (6 * (n - 1) + 3) / 6 = n - 1 by omega, show (6 * (n - 1) + 3) % 6 = 3 by omega] at h1
    rw [show (6 * (n - 1) + 4) / 6 = n - 1 by omega, show (6 * (n - 1) + 4) % 6 = 4 by omega] at h2
    rw [show (6 * (n - 1) + 5) / 6 = n - 1 by omega, show (6 * (n - 1) + 5) % 6 = 5 by omega] at h3
    simp only [Nat.reduceSub, Int.reducePow] at h0 h1 h2 h3
    omega
  · rw [if_neg (by omega)]
    have h2 := hz (6 * (n - 1) + 4) (by omega) (by omega)
    have h3 := hz (6 * (n - 1) + 5) (by omega) (by omega)
    unfold bitD at h2 h3
    rw [show (6 * (n - 1) + 4) / 6 = n - 1 by omega, show (6 * (n - 1) + 4) % 6 = 4 by omega] at h2
    rw [show (6 * (n - 1) + 5) / 6 = n - 1 by omega, show (6 * (n - 1) + 5) % 6 = 5 by omega] at h3
    simp only [Nat.reduceSub, Int.reducePow] at h2 h3
    omega
theorem last_not (l : List Int) (p : Nat) (h1 : l.length * 6 / 8 * 8 ≤ p) (h2 : p < 6 * l.length) (h : bitD l p ≠ 0) : l.length % 4 ≠ 0 ∧ (l.length % 4 ≠ 1 → looseL l ≠ 0) := by
  obtain ⟨n, hn⟩ : ∃ n, n = l.length := ⟨_, rfl⟩
  unfold looseL
  rw [← hn] at h1 h2 ⊢
  have hb := wo_bd (l.getD (n - 1) 0)
  refine ⟨by omega, fun hm => ?_⟩
  have hp : p / 6 = n - 1 := by omega
  unfold bitD at h
  rw [hp] at h
  have h6 : p % 6 = 2 ∨ p % 6 = 3 ∨ p % 6 = 4 ∨ p % 6 = 5 := by omega
  by_cases h3 : n % 4 = 2
  · rw [if_pos h3]
    rcases h6 with h6 | h6 | h6 | h6 <;> (rw [h6] at h; simp only [Nat.reduceSub, Int.reducePow] at h; omega)
  · rw [if_neg h3]
    have h6' : p % 6 = 4 ∨ p % 6 = 5 := by omega
    rcases h6' with h6 | h6 <;> (rw [h6] at h; simp only [Nat.reduceSub, Int.reducePow] at h; omega)
theorem sg_eq_iff (c n : Int) (h0 : 0 ≤ n) (h1 : n < 64) : sg n = c ↔ wo c = n := by
  constructor
  · rintro rfl; exact wo_sg n ⟨h0, h1⟩
  · intro h; rw [← h]; exact sg_wo c (by omega)
end Go.Proofs.YtdgpphihjeffcaaDoor
