/- The plain mathematics of digests, on: what a Hash has taken in, piece by piece, and what it then tells. -/
import Derived.Test.YtdgpphihjeffcaaDoorShaMath2
import Derived.Test.YtdgpphihjeffcaaDoorKit3
namespace Go.Proofs.YtdgpphihjeffcaaDoor
open Go Go.RowKit

def Words (l : List Int) : Prop := ∀ i, 0 ≤ l.getD i 0 ∧ l.getD i 0 < 4294967296
theorem Bytes.rep (n : Nat) : Bytes (List.replicate n 0) := rep_bd n
theorem Words.start : Words startL := fun i =>
  match i with
  | 0 | 1 | 2 | 3 | 4 | 5 | 6 | 7 => by decide
  | n + 8 => by simp [startL]

/-- The sum of the first k blocks of bytes. -/
def absorb (bs : List Int) : Nat → List Int
  | 0 => startL
  | k + 1 => mixL (absorb bs k) ((bs.drop (64 * k)).take 64)
theorem length_absorb (bs : List Int) : ∀ k, (absorb bs k).length = 8
  | 0 => rfl
  | k + 1 => by rw [absorb, length_mixL, length_absorb bs k]
theorem absorb_bd (bs : List Int) : ∀ k, Words (absorb bs k)
  | 0 => Words.start
  | k + 1 => fun i => mixL_bd _ _ (absorb_bd bs k) i
theorem absorb_append (bs x : List Int) : ∀ k, 64 * k ≤ bs.length → absorb (bs ++ x) k = absorb bs k
  | 0, _ => rfl
  | k + 1, h => by
    rw [absorb, absorb, absorb_append bs x k (by omega), List.drop_append_of_le_length (by omega), List.take_append_of_le_length (by rw [List.length_drop]; omega)]

/-- What a Hash's fields hold once it has taken in bs. -/
def HOk (sum blk bs : List Int) : Prop :=
  sum.length = 8 ∧ Words sum ∧ blk.length = 64 ∧ Bytes blk ∧ blk.take (bs.length % 64) = bs.drop (64 * (bs.length / 64)) ∧ (64 ≤ bs.length → sum = absorb bs (bs.length / 64))
theorem HOk.zero : HOk (List.replicate 8 0) (List.replicate 64 0) [] :=
  ⟨rfl, fun i => by have := rep_bd 8 i; omega, rfl, rep_bd 64, rfl, fun h => absurd h (by simp)⟩
theorem HOk.soFar {sum blk bs : List Int} (h : HOk sum blk bs) : (if bs.length < 64 then startL else sum) = absorb bs (bs.length / 64) := by
  split
  · rename_i hlt
    rw [show bs.length / 64 = 0 by omega]; rfl
  · exact h.2.2.2.2.2 (by omega)
theorem splice_blk {sum blk bs : List Int} (h : HOk sum blk bs) (ds : List Int) (hf : bs.length % 64 + ds.length ≤ 64) :
    (splice blk (bs.length % 64) ds).take (bs.length % 64 + ds.length) = (bs ++ ds).drop (64 * (bs.length / 64)) ∧ (splice blk (bs.length % 64) ds).length = 64 := by
  obtain ⟨_, _, hb, _, ht, _⟩ := h
  refine ⟨?_, length_splice blk (bs.length % 64) ds (by omega) |>.trans hb⟩
  rw [splice, ← List.append_assoc, List.take_append_of_le_length (by simp; omega), List.take_of_length_le (by simp; omega), ht, List.drop_append_of_le_length (by omega)]
theorem HOk.part {sum blk bs : List Int} (h : HOk sum blk bs) (ds : List Int) (hd : Bytes ds) (hf : bs.length % 64 + ds.length < 64) : HOk sum (splice blk (bs.length % 64) ds) (bs ++ ds) := by
  obtain ⟨h1, h2⟩ := splice_blk h ds (by omega)
  obtain ⟨hs, hw, hb, hy, ht, ha⟩ := h
  have e1 : (bs ++ ds).length = bs.length + ds.length := List.length_append
  have e2 : (bs.length + ds.length) / 64 = bs.length / 64 := by omega
  have e3 : (bs.length + ds.length) % 64 = bs.length % 64 + ds.length := by omega
  refine ⟨hs, hw, h2, hy.splice hd _, by rw [e1, e2, e3, h1], fun h64 => ?_⟩
  rw [e1, e2, absorb_append _ _ _ (by omega)]
  exact ha (by omega)
theorem HOk.full {sum blk bs : List Int} (h : HOk sum blk bs) (ds : List Int) (hd : Bytes ds) (hf : bs.length % 64 + ds.length = 64) :
    HOk (mixL (absorb bs (bs.length / 64)) (splice blk (bs.length % 64) ds)) (splice blk (bs.length % 64) ds) (bs ++ ds) := by
  obtain ⟨h1, h2⟩ := splice_blk h ds (by omega)
  obtain ⟨hs, hw, hb, hy, ht, ha⟩ := h
  have e1 : (bs ++ ds).length = bs.length + ds.length := List.length_append
  have e2 : (bs.length + ds.length) / 64 = bs.length / 64 + 1 := by omega
  have e3 : (bs.length + ds.length) % 64 = 0 := by omega
  refine ⟨by rw [length_mixL, length_absorb], fun i => mixL_bd _ _ (absorb_bd _ _) i, h2, hy.splice hd _, ?_, fun _ => ?_⟩
  · rw [e1, e2, e3, List.take_zero, List.drop_eq_nil_of_le (by rw [e1]; omega)]
  · rw [e1, e2, absorb, absorb_append _ _ _ (by omega), ← h1, hf, List.take_take, show min 64 64 = 64 from rfl, List.take_of_length_le (by omega)]

/-- The last block: the bytes that wait, a 128, noughts. -/
def padB (rest : List Int) : List Int := rest ++ (128 :: List.replicate (63 - rest.length) 0)
/-- The sum of all bytes. -/
def finL (bs : List Int) : List Int :=
  if 64 - bs.length % 64 - 1 < 8 then mixL (mixL (absorb bs (bs.length / 64)) (padB (bs.drop (64 * (bs.length / 64))))) (putC (List.replicate 64 0) (bs.length * 8) 8)
  else mixL (absorb bs (bs.length / 64)) (putC (padB (bs.drop (64 * (bs.length / 64)))) (bs.length * 8) 8)
/-- THE DIGEST of bytes. -/
def digestL (bs : List Int) : List Int := sbL (finL bs) 8
theorem length_finL (bs : List Int) : (finL bs).length = 8 := by
  unfold finL; split <;> simp [length_mixL, length_absorb]
theorem finL_bd (bs : List Int) : Words (finL bs) := by
  unfold finL; split
  · exact fun i => mixL_bd _ _ (fun j => mixL_bd _ _ (absorb_bd _ _) j) i
  · exact fun i => mixL_bd _ _ (absorb_bd _ _) i
theorem length_digestL (bs : List Int) : (digestL bs).length = 32 := length_sbL _ _
theorem digestL_bd (bs : List Int) : Bytes (digestL bs) := sbL_bd _ (finL_bd bs) 8
theorem padB_bd {rest : List Int} (h : Bytes rest) : Bytes (padB rest) := h.append (.of_mem fun x hx => by
  rcases List.mem_cons.1 hx with rfl | hx
  · decide
  · rw [List.eq_of_mem_replicate hx]; decide)
theorem length_padB {rest : List Int} (h : rest.length < 64) : (padB rest).length = 64 := by simp [padB]; omega
end Go.Proofs.YtdgpphihjeffcaaDoor
