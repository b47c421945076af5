/- The plain mathematics of digests, on: what a Hash holds, and the digest. -/
import Derived.Test.YtdgpphihjeffcaaDoorShaMath
namespace Go.Proofs.YtdgpphihjeffcaaDoor
open Go Go.RowKit

/-! What a Hash holds, and the digest. -/
/-- A Hash's cells. -/
def HC (sum blk : List Int) (n : Nat) : List Value := ints .u32 sum ++ (ints .u8 blk ++ [.int .u64 (n : Int)])
/-- A count, cut by eight bits k times. -/
def shr8 (m : Int) : Nat → Int
  | 0 => m
  | k + 1 => shr8 m k / 256
/-- The count of bits, written from the last byte on: behind k bytes. -/
def putC (L : List Int) (m : Int) : Nat → List Int
  | 0 => L
  | k + 1 => (putC L m k).set (56 + (7 - k)) (shr8 m k % 256)
@[simp] theorem length_putC (L : List Int) (m : Int) : ∀ k, (putC L m k).length = L.length
  | 0 => rfl
  | k + 1 => by simp [putC, length_putC L m k]
theorem putC_bd (L : List Int) (m : Int) (hL : ∀ i, 0 ≤ L.getD i 0 ∧ L.getD i 0 ≤ 255) : ∀ k i, 0 ≤ (putC L m k).getD i 0 ∧ (putC L m k).getD i 0 ≤ 255
  | 0, i => hL i
  | k + 1, i => by
    have h := putC_bd L m hL k i
    simp only [putC, List.getD_eq_getElem?_getD, List.getElem?_set] at h ⊢
    split
    · split
      · simp only [Option.getD_some]; omega
      · simp
    · exact h
/-- The bytes of words, behind k words. -/
def sbL (s : List Int) : Nat → List Int
  | 0 => List.replicate 32 0
  | k + 1 => ((((sbL s k).set (4 * k) (s.getD k 0 / 16777216)).set (4 * k + 1) (s.getD k 0 / 65536 % 256)).set (4 * k + 2) (s.getD k 0 / 256 % 256)).set (4 * k + 3) (s.getD k 0 % 256)
@[simp] theorem length_sbL (s : List Int) : ∀ k, (sbL s k).length = 32
  | 0 => by simp [sbL]
  | k + 1 => by simp [sbL, length_sbL s k]
theorem set_bd (L : List Int) (n : Nat) (x : Int) (hx : 0 ≤ x ∧ x ≤ 255) (hL : ∀ i, 0 ≤ L.getD i 0 ∧ L.getD i 0 ≤ 255) (i : Nat) : 0 ≤ (L.set n x).getD i 0 ∧ (L.set n x).getD i 0 ≤ 255 := by
  have h := hL i
  simp only [List.getD_eq_getElem?_getD, List.getElem?_set] at h ⊢
  split
  · split
    · simp only [Option.getD_some]; exact hx
    · simp
  · exact h
theorem rep_bd (n : Nat) (i : Nat) : 0 ≤ (List.replicate n (0 : Int)).getD i 0 ∧ (List.replicate n (0 : Int)).getD i 0 ≤ 255 := by
  simp only [List.getD_eq_getElem?_getD, List.getElem?_replicate]
  split <;> simp
theorem sbL_bd (s : List Int) (hs : ∀ i, 0 ≤ s.getD i 0 ∧ s.getD i 0 < 4294967296) : ∀ k i, 0 ≤ (sbL s k).getD i 0 ∧ (sbL s k).getD i 0 ≤ 255
  | 0, i => rep_bd 32 i
  | k + 1, i => by
    have := hs k
    unfold sbL
    exact set_bd _ _ _ (by omega) (set_bd _ _ _ (by omega) (set_bd _ _ _ (by omega) (set_bd _ _ _ (by omega) (sbL_bd s hs k)))) i
end Go.Proofs.YtdgpphihjeffcaaDoor
