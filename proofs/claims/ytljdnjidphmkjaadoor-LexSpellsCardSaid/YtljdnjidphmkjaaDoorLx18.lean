/- DecPart, LxSign: merged. -/
import Derived.Test.YtljdnjidphmkjaaDoorLx04
set_option linter.all false
namespace Go.Proofs.YtljdnjidphmkjaaDoor
open Go Go.RowKit
set_option maxRecDepth 100000 in
theorem belowZero_any (n : Int) (w : World) (h0 : -9223372036854775808 ≤ n) (h1 : n ≤ 9223372036854775807) :
    Calls Tryd.prog 57 #[.int .i64 n] w fun e w' => e = .returned (.int .i64 (-(n.natAbs : Int))) ∧ w = w' := by
  by_cases h : 0 < n
  · have HR : Hid (-(n.natAbs : Int) = -n) := Lib.hid (by omega)
    go_enter Tryd.func57, Tryd.ntmps57
    go_wp2
    go_ret
    rw [HR.out]
    exact ⟨rfl, rfl⟩
  · have HR : Hid (-(n.natAbs : Int) = n) := Lib.hid (by omega)
    go_enter Tryd.func57, Tryd.ntmps57
    go_wp2
    go_ret
    rw [HR.out]
    exact ⟨rfl, rfl⟩
/-! ### countDigits -/
/-! ### Lead -/
end Go.Proofs.YtljdnjidphmkjaaDoor
namespace Go.Proofs.YtljdnjidphmkjaaDoor
open Go Go.RowKit
theorem beq_nat (a b : Nat) : ((a : Int) == (b : Int)) = decide (a = b) := by rw [Bool.eq_iff_iff, beq_iff_eq, decide_eq_true_eq]; omega
section
variable (s F : ByteArray) (m : Nat) (w : World) (hm : (min (s.size : Int) 2).toNat = m) (hF : s.extract 0 m = F)
include hm hF
end
/-! ### isWord, isSign -/
def isWordB (s : ByteArray) : Bool := decide (s.size ≠ 0 ∧ s.size ≤ 32 ∧ wordN (strL s) = s.size)
set_option maxRecDepth 100000 in
theorem isWord_any (s : ByteArray) (w : World) (hs : s.size ≤ 9223372036854775807) : Calls Tryd.prog 28 #[.string s] w fun e w' => e = .returned (.bool (isWordB s)) ∧ w = w' := by
  by_cases h0 : s.size = 0
  · rw [str_nil h0]
    go_enter Tryd.func28, Tryd.ntmps28
    go_wp2_with fail
    go_ret
    exact ⟨rfl, rfl⟩
  · obtain ⟨b0, b1⟩ := ne_of_size h0
    by_cases h1 : s.size ≤ 32
    · have h2 : (s.size : Int) ≤ 32 := by omega
      have HW := Lib.hid (fun W : World => leadWord_any s W hs)
      have HB : Hid (isWordB s = decide (wordN (strL s) = s.size)) := Lib.hid (by unfold isWordB; rw [decide_eq_decide]; exact ⟨fun h => h.2.2, fun h => ⟨h0, h1, h⟩⟩)
      obtain ⟨q, hq⟩ : ∃ q, q = wordN (strL s) := ⟨_, rfl⟩
      rw [← hq] at HW HB
      clear hs h0 h1 hq
      go_enter Tryd.func28, Tryd.ntmps28
      go_wp2_with fail
      refine (HW.out _).mono ?_
      rintro e w' ⟨rfl, rfl⟩
      go_wp2_with fail
      go_ret
      rw [HB.out]
      exact ⟨congrArg (fun b => Ending.returned (.bool b)) (beq_nat _ _), rfl⟩
    · have h2 : ¬ (s.size : Int) ≤ 32 := by omega
      have HB : Hid (isWordB s = false) := Lib.hid (decide_eq_false fun h => h1 h.2.1)
      clear hs h0 h1
      go_enter Tryd.func28, Tryd.ntmps28
      go_wp2_with fail
      go_ret
      rw [HB.out]
      exact ⟨rfl, rfl⟩
set_option maxRecDepth 100000 in
theorem isSign_any (s : ByteArray) (w : World) : Calls Tryd.prog 31 #[.string s] w fun e w' => e = .returned (.bool (isSignB s)) ∧ w = w' := by
  by_cases h0 : s.size = 0
  · rw [str_nil h0]
    go_enter Tryd.func31, Tryd.ntmps31
    go_wp2_with fail
    go_ret
    exact ⟨rfl, rfl⟩
  · obtain ⟨b0, b1⟩ := ne_of_size h0
    have HW := Lib.hid (fun W : World => leadSign_any s W)
    have HB : Hid (isSignB s = decide (signN (strL s) = s.size)) := Lib.hid (by unfold isSignB; rw [decide_eq_decide]; exact ⟨fun h => h.2, fun h => ⟨h0, h⟩⟩)
    obtain ⟨q, hq⟩ : ∃ q, q = signN (strL s) := ⟨_, rfl⟩
    rw [← hq] at HW HB
    clear h0 hq
    go_enter Tryd.func31, Tryd.ntmps31
    go_wp2_with fail
    refine (HW.out _).mono ?_
    rintro e w' ⟨rfl, rfl⟩
    go_wp2_with fail
    go_ret
    rw [HB.out]
    exact ⟨congrArg (fun b => Ending.returned (.bool b)) (beq_nat _ _), rfl⟩
/-! ### kindOf -/
end Go.Proofs.YtljdnjidphmkjaaDoor
