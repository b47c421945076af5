/- The reference's padding against the program's last blocks. -/
import Derived.Test.YtdgpphihjeffcaaDoorShaRefMath
namespace Go.Proofs.YtdgpphihjeffcaaDoor
open Go Go.RowKit

/-- The count's eight bytes, the highest first. -/
def cntR (m : Int) : List Int := [shr8 m 7 % 256, shr8 m 6 % 256, shr8 m 5 % 256, shr8 m 4 % 256, shr8 m 3 % 256, shr8 m 2 % 256, shr8 m 1 % 256, shr8 m 0 % 256]
theorem putC_eq (L : List Int) (m : Int) (hL : L.length = 64) : putC L m 8 = L.take 56 ++ cntR m := by
  obtain ⟨A, T, rfl, hA, hT⟩ : ∃ A T : List Int, L = A ++ T ∧ A.length = 56 ∧ T.length = 8 := ⟨L.take 56, L.drop 56, (List.take_append_drop 56 L).symm, by rw [List.length_take]; omega, by rw [List.length_drop]; omega⟩
  have hs : ∀ (T : List Int) (i : Nat) (x : Int), (A ++ T).set (56 + i) x = A ++ T.set i x := fun T i x => by
    rw [List.set_append_right _ _ (by omega), hA, show 56 + i - 56 = i by omega]
  rw [List.take_left' hA]
  match T, hT with
  | [t0, t1, t2, t3, t4, t5, t6, t7], _ =>
    simp only [putC, hs]
    rfl
/-- How many noughts stand between the 128 and the count. -/
def gapR (n : Nat) : Nat := if 55 < n % 64 then 119 - n % 64 else 55 - n % 64
def padR (n : Nat) : List Int := 128 :: (List.replicate (gapR n) 0 ++ cntR (n * 8))
theorem length_padR (n : Nat) : (padR n).length = gapR n + 9 := by simp [padR, cntR]
/-- THE SUM OF ALL BLOCKS OF THE PADDED BYTES IS THE PROGRAM's. -/
theorem absorb_pad (bs : List Int) : absorb (bs ++ padR bs.length) ((bs.length + (gapR bs.length + 9)) / 64) = finL bs := by
  obtain ⟨n, hn⟩ : ∃ n, n = bs.length := ⟨_, rfl⟩
  obtain ⟨q, hq⟩ : ∃ q, q = n / 64 := ⟨_, rfl⟩
  obtain ⟨r, hr⟩ : ∃ r, r = n % 64 := ⟨_, rfl⟩
  obtain ⟨rest, hrest⟩ : ∃ l, l = bs.drop (64 * q) := ⟨_, rfl⟩
  have hrl : rest.length = r := by rw [hrest, List.length_drop, ← hn]; omega
  have hd : (bs ++ padR n).drop (64 * q) = rest ++ padR n := by rw [hrest, List.drop_append_of_le_length (by rw [← hn]; omega)]
  have h0 : absorb (bs ++ padR n) q = absorb bs q := absorb_append _ _ _ (by rw [← hn]; omega)
  rw [finL, ← hn, ← hr, ← hq, ← hrest]
  by_cases h : 55 < r
  · have hg : gapR n = 119 - r := by rw [gapR, ← hr, if_pos h]
    have hk : (n + (gapR n + 9)) / 64 = q + 1 + 1 := by rw [hg]; omega
    have hpad : rest ++ padR n = padB rest ++ (List.replicate 56 0 ++ cntR (n * 8)) := by
      rw [padR, padB, hg, hrl, show 119 - r = (63 - r) + 56 by omega, ← List.replicate_append_replicate]
      simp
    have hb1 : ((bs ++ padR n).drop (64 * q)).take 64 = padB rest := by
      rw [hd, hpad, List.take_append_of_le_length (by rw [length_padB (by omega)]; omega), List.take_of_length_le (by rw [length_padB (by omega)]; omega)]
    have hb2 : ((bs ++ padR n).drop (64 * (q + 1))).take 64 = putC (List.replicate 64 0) (n * 8) 8 := by
      rw [show 64 * (q + 1) = 64 * q + 64 by omega, ← List.drop_drop, hd, hpad, List.drop_left' (length_padB (by omega)), putC_eq _ _ (by simp), List.take_replicate]
      exact List.take_of_length_le (by simp [cntR])
    rw [hk, absorb, absorb, h0, hb1, hb2, if_pos (by omega)]
  · have hg : gapR n = 55 - r := by rw [gapR, ← hr, if_neg h]
    have hk : (n + (gapR n + 9)) / 64 = q + 1 := by rw [hg]; omega
    have hb1 : ((bs ++ padR n).drop (64 * q)).take 64 = putC (padB rest) (n * 8) 8 := by
      rw [hd, putC_eq _ _ (length_padB (by omega))]
      have e1 : (padB rest).take 56 = rest ++ (128 :: List.replicate (55 - r) 0) := by
        rw [padB, hrl, List.take_append, hrl, List.take_of_length_le (by omega), show 56 - r = (55 - r) + 1 by omega, List.take_succ_cons, List.take_replicate, show min (55 - r) (63 - r) = 55 - r by omega]
      rw [e1, padR, hg]
      have e2 : rest ++ 128 :: (List.replicate (55 - r) 0 ++ cntR (n * 8)) = (rest ++ 128 :: List.replicate (55 - r) 0) ++ cntR (n * 8) := by simp
      rw [e2]
      exact List.take_of_length_le (by simp [cntR]; omega)
    rw [hk, absorb, h0, hb1, if_neg (by omega)]
end Go.Proofs.YtdgpphihjeffcaaDoor
