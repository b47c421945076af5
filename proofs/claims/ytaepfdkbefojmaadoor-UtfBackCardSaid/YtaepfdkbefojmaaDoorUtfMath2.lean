/- The mathematics of UTF-8, on: parts of a letter's bytes. -/
import Derived.Test.YtaepfdkbefojmaaDoorUtfMath
namespace Go.Proofs.YtaepfdkbefojmaaDoor
open Go Go.RowKit

/-- No beginning of a letter's bytes is a letter, and no end. -/
theorem nx_front {n : Int} {i : Nat} (h1 : 1 ≤ i) (h2 : i < (putL n).length) : nxL ((putL n).take i) = (-1, 1) := by
  obtain ⟨c, r, hc⟩ := List.exists_cons_of_ne_nil (l := putL n) (fun e => by rw [e, List.length_nil] at h2; omega)
  have hw := (putL_want hc).1
  have hl : ((putL n).take i).length = i := by rw [List.length_take]; omega
  have h0 : ((putL n).take i).getD 0 0 = c := by rw [getD_take _ _ _ h1, hc]; rfl
  unfold nxL
  rw [hl, if_neg (by omega), h0, hw, if_pos h2]
theorem nx_tail {c : Int} {r : List Int} (h : 128 ≤ c) (h2 : c < 192) : nxL (c :: r) = (-1, 1) := by
  have hw : wantL c = 1 := by unfold wantL; rw [if_neg (by omega), if_neg (by omega), if_neg (by omega)]
  have hc : candL (c :: r) = c := by
    unfold candL
    rw [List.getD_cons_zero, hw]
    show c - 0 = c
    omega
  unfold nxL
  rw [List.getD_cons_zero, hw, hc, if_neg (by simp), if_neg (by simp), if_neg]
  rw [putL_two h (by omega)]
  simp
theorem nx_back {n : Int} {i : Nat} (h1 : 1 ≤ i) (h2 : i < (putL n).length) : nxL ((putL n).drop i) = (-1, 1) := by
  rcases putL_cases n with ⟨h, _⟩ | ⟨_, _, h⟩ | ⟨_, _, h⟩ | ⟨_, _, _, h⟩ | ⟨_, _, h⟩ <;> rw [h] at h2 ⊢ <;> simp only [List.length_cons, List.length_nil] at h2
  · omega
  · omega
  · match i, h1, h2 with
    | 1, _, _ => exact nx_tail (by omega) (by omega)
  · match i, h1, h2 with
    | 1, _, _ => exact nx_tail (by omega) (by omega)
    | 2, _, _ => exact nx_tail (by omega) (by omega)
  · match i, h1, h2 with
    | 1, _, _ => exact nx_tail (by omega) (by omega)
    | 2, _, _ => exact nx_tail (by omega) (by omega)
    | 3, _, _ => exact nx_tail (by omega) (by omega)
end Go.Proofs.YtaepfdkbefojmaaDoor
