/- The reference's text of bytes, bit by bit, is the program's. -/
import Derived.Test.YtdgpphihjeffcaaDoorB64Math
namespace Go.Proofs.YtdgpphihjeffcaaDoor
open Go Go.RowKit

def bitAt (l : List Int) (k : Nat) : Int := l.getD (k / 8) 0 / 2 ^ (7 - k % 8) % 2
def sixk (l : List Int) (at_ : Nat) : Nat → Int
  | 0 => 0
  | k + 1 => 2 * sixk l at_ k + bitAt l (at_ + k)
def refL (l : List Int) : Nat → List Int
  | 0 => []
  | j + 1 => refL l j ++ [sg (sixk l (6 * j) 6)]
@[simp] theorem length_refL (l : List Int) : ∀ j, (refL l j).length = j
  | 0 => rfl
  | j + 1 => by simp [refL, length_refL l j]
theorem bitAt_bd (l : List Int) (k : Nat) : 0 ≤ bitAt l k ∧ bitAt l k ≤ 1 := by unfold bitAt; omega
theorem sixk_bd (l : List Int) (a : Nat) : ∀ k, 0 ≤ sixk l a k ∧ sixk l a k < 2 ^ k
  | 0 => ⟨Int.le_refl _, by show (0 : Int) < 2 ^ 0; decide⟩
  | k + 1 => by
    have h := sixk_bd l a k
    have hb := bitAt_bd l (a + k)
    rw [sixk, Int.pow_succ]
    omega
theorem bitAt_three (a b c : Int) (r : List Int) (k : Nat) : bitAt (a :: b :: c :: r) (k + 24) = bitAt r k := by
  unfold bitAt
  rw [show (k + 24) / 8 = k / 8 + 3 by omega, show (k + 24) % 8 = k % 8 by omega]
  rfl
theorem sixk_three (a b c : Int) (r : List Int) (at_ : Nat) : ∀ k, sixk (a :: b :: c :: r) (at_ + 24) k = sixk r at_ k
  | 0 => rfl
  | k + 1 => by
    rw [sixk, sixk, sixk_three a b c r at_ k, show at_ + 24 + k = at_ + k + 24 by omega, bitAt_three]
theorem bits_of (l : List Int) (at_ : Nat) : sixk l at_ 6 = 32 * bitAt l at_ + 16 * bitAt l (at_ + 1) + 8 * bitAt l (at_ + 2) + 4 * bitAt l (at_ + 3) + 2 * bitAt l (at_ + 4) + bitAt l (at_ + 5) := by
  simp only [sixk, Nat.add_zero]; omega
theorem six_first (a b c : Int) (r : List Int) (ha : 0 ≤ a ∧ a ≤ 255) (hb : 0 ≤ b ∧ b ≤ 255) (hc : 0 ≤ c ∧ c ≤ 255) :
    sixk (a :: b :: c :: r) 0 6 = a / 4 ∧ sixk (a :: b :: c :: r) 6 6 = a % 4 * 16 + b / 16 ∧ sixk (a :: b :: c :: r) 12 6 = b % 16 * 4 + c / 64 ∧ sixk (a :: b :: c :: r) 18 6 = c % 64 := by
  refine ⟨?_, ?_, ?_, ?_⟩ <;> (rw [bits_of]; simp only [bitAt, List.getD_eq_getElem?_getD, Nat.reduceAdd, Nat.reduceDiv, Nat.reduceMod, Nat.reduceSub, List.getElem?_cons_zero, List.getElem?_cons_succ, Option.getD_some, Int.reducePow]; omega)
theorem ref_first (a b c : Int) (r : List Int) (ha : 0 ≤ a ∧ a ≤ 255) (hb : 0 ≤ b ∧ b ≤ 255) (hc : 0 ≤ c ∧ c ≤ 255) :
    ∀ j, refL (a :: b :: c :: r) (j + 4) = sg (a / 4) :: sg (a % 4 * 16 + b / 16) :: sg (b % 16 * 4 + c / 64) :: sg (c % 64) :: refL r j
  | 0 => by
    obtain ⟨h1, h2, h3, h4⟩ := six_first a b c r ha hb hc
    simp only [refL, Nat.mul_zero, Nat.mul_one, Nat.reduceMul, h1, h2, h3, h4, List.nil_append, List.cons_append]
  | j + 1 => by
    rw [show j + 1 + 4 = (j + 4) + 1 by omega, refL, ref_first a b c r ha hb hc j, refL, show 6 * (j + 4) = 6 * j + 24 by omega, sixk_three]
    rfl
theorem bitAt_pad (l : List Int) (k : Nat) : ∀ m, bitAt (l ++ List.replicate m 0) k = bitAt l k := fun m => by
  unfold bitAt
  congr 2
  simp only [List.getD_eq_getElem?_getD]
  rcases Nat.lt_or_ge (k / 8) l.length with h | h
  · rw [List.getElem?_append_left h]
  · rw [List.getElem?_append_right h, List.getElem?_eq_none h, List.getElem?_replicate]
    split <;> rfl
theorem sixk_pad (l : List Int) (a m : Nat) : ∀ k, sixk (l ++ List.replicate m 0) a k = sixk l a k
  | 0 => rfl
  | k + 1 => by rw [sixk, sixk, sixk_pad l a m k, bitAt_pad]
theorem refL_enc : ∀ (l : List Int), Byt l → refL l ((8 * l.length + 5) / 6) = encL l
  | [], _ => rfl
  | [a], h => by
    have ha := h a (by simp)
    obtain ⟨h1, h2, _, _⟩ := six_first a 0 0 [] ha (by decide) (by decide)
    have e : ∀ at_, sixk [a] at_ 6 = sixk [a, 0, 0] at_ 6 := fun at_ => (sixk_pad [a] at_ 2 6).symm
    have e0 : (8 * [a].length + 5) / 6 = 2 := by simp
    rw [e0]
    simp only [refL, Nat.mul_zero, Nat.mul_one, e, h1, h2, List.nil_append, List.cons_append, encL]
    simp
  | [a, b], h => by
    have ha := h a (by simp)
    have hb := h b (by simp)
    obtain ⟨h1, h2, h3, _⟩ := six_first a b 0 [] ha hb (by decide)
    have e : ∀ at_, sixk [a, b] at_ 6 = sixk [a, b, 0] at_ 6 := fun at_ => (sixk_pad [a, b] at_ 1 6).symm
    have e0 : (8 * [a, b].length + 5) / 6 = 3 := by simp
    rw [e0]
    simp only [refL, Nat.mul_zero, Nat.mul_one, Nat.reduceMul, e, h1, h2, h3, List.nil_append, List.cons_append, encL]
    simp
  | a :: b :: c :: r, h => by
    have ha := h a (by simp)
    have hb := h b (by simp)
    have hc := h c (by simp)
    have e : (8 * (a :: b :: c :: r).length + 5) / 6 = (8 * r.length + 5) / 6 + 4 := by simp only [List.length_cons]; omega
    rw [e, ref_first a b c r ha hb hc, refL_enc r fun x hx => h x (by simp [hx])]
    rfl
end Go.Proofs.YtdgpphihjeffcaaDoor
