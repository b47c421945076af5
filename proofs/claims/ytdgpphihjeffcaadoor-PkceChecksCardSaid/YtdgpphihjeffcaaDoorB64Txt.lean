/- The text of a string's bytes. -/
import Derived.Test.YtdgpphihjeffcaaDoorB64Encode
namespace Go.Proofs.YtdgpphihjeffcaaDoor
open Go Go.RowKit

/-- The text of a string's bytes, decoded. -/
def txt (s : ByteArray) : ByteArray := ⟨(toU (encL (strL s))).toArray⟩
theorem strL_txt (s : ByteArray) : strL (txt s) = encL (strL s) := strL_toU (encL_bytes (strL_bd s))
theorem size_txt (s : ByteArray) : (txt s).size = (8 * s.size + 5) / 6 := by rw [← length_strL, strL_txt, length_encL, length_strL]
theorem decL_bytes : ∀ {l : List Int}, Good l → Bytes (decL l)
  | [], _ => .of_mem (by simp [decL])
  | [_], _ => .of_mem (by simp [decL])
  | [a, b], h => .of_mem fun x hx => by
    have ga := h 0 (by simp)
    have gb := h 1 (by simp)
    simp only [List.getD_cons_zero, List.getD_cons_succ] at ga gb
    have := wo_bd a
    have := wo_bd b
    simp only [decL, List.mem_cons, List.not_mem_nil, or_false] at hx
    subst hx; omega
  | [a, b, c], h => .of_mem fun x hx => by
    have ga := h 0 (by simp)
    have gb := h 1 (by simp)
    have gc := h 2 (by simp)
    simp only [List.getD_cons_zero, List.getD_cons_succ] at ga gb gc
    have := wo_bd a
    have := wo_bd b
    have := wo_bd c
    simp only [decL, List.mem_cons, List.not_mem_nil, or_false] at hx
    rcases hx with rfl | rfl <;> omega
  | a :: b :: c :: d :: r, h => .of_mem fun x hx => by
    have ga := h 0 (by simp)
    have gb := h 1 (by simp)
    have gc := h 2 (by simp)
    have gd := h 3 (by simp)
    simp only [List.getD_cons_zero, List.getD_cons_succ] at ga gb gc gd
    have := wo_bd a
    have := wo_bd b
    have := wo_bd c
    have := wo_bd d
    simp only [decL, List.mem_cons] at hx
    rcases hx with rfl | rfl | rfl | hx
    · omega
    · omega
    · omega
    · exact (decL_bytes fun k hk => h (k + 4) (by simp; omega)).mem hx
end Go.Proofs.YtdgpphihjeffcaaDoor
