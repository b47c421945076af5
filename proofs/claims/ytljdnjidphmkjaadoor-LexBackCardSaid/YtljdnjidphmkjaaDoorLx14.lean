/- LxScan, LxLawS: merged. -/
import Derived.Test.YtljdnjidphmkjaaDoorLx11
set_option linter.all false
namespace Go.Proofs.YtljdnjidphmkjaaDoor
open Go Go.RowKit
set_option maxRecDepth 100000 in
set_option maxHeartbeats 1000000 in
theorem scan_long (s : ByteArray) (w : World) (h : 2048 < s.size) :
    Calls Tryd.prog 8 #[.string s] w (ScanTells (scanL (strL s)) w) := by
  have HR : Hid (scanL (strL s) = ([], 2, -1)) := Lib.hid (by rw [scanL, if_pos (by rw [length_strL]; exact h)])
  have hf : (2048 : Int) < (s.size : Int) := by omega
  rw [HR.out]
  go_enter Tryd.func8, Tryd.ntmps8
  go_wp2
  go_ret2
  exact ⟨none, 0, _, rfl, Nat.le_refl _, ToksAt.nil _ _, .inr (.inl ⟨by decide, rfl, rfl⟩), Below.refl _ _⟩
end Go.Proofs.YtljdnjidphmkjaaDoor
namespace Go.Proofs.YtljdnjidphmkjaaDoor
open Go Go.RowKit
theorem Ask11.below {w w' : World} (h : Ask11 w) (hb : Below w.heap.size w w') : Ask11 w' := ⟨h.marks.below hb, h.max.below hb⟩
theorem scan_any (s : ByteArray) (w : World) (h : Ask11 w) : Calls Tryd.prog 8 #[.string s] w (ScanTells (scanL (strL s)) w) := by
  by_cases hl : 2048 < s.size
  · exact scan_long s w hl
  · exact scan_short s w h.marks h.max hl
theorem scanF_len : ∀ (f : Nat) (l : List Int) (p : Nat) (acc : List TokM), acc.length ≤ 512 → (scanF f l p acc).1.length ≤ 513
  | 0, _, _, _, _ => by simp [scanF]
  | f + 1, l, p, acc, h => by
    rw [scanF]
    split
    · simp
    · split
      · simp; omega
      · split
        · simp
        · exact scanF_len f _ _ _ (by simp; omega)
theorem scanL_len (l : List Int) : (scanL l).1.length ≤ 513 := by
  unfold scanL
  split
  · simp
  · exact scanF_len _ _ _ _ (by simp)
end Go.Proofs.YtljdnjidphmkjaaDoor
