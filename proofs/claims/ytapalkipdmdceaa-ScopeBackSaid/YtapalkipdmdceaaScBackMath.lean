/- The mathematics of ScopeBack: scopes come back from their text; the laws of sets. -/
import Derived.Test.YtapalkipdmdceaaScPrint
import Derived.Test.YtapalkipdmdceaaScLess
namespace Go.Proofs.Ytapalkipdmdceaa
open Go Go.RowKit

theorem strL_nm (s : ByteArray) : strL s = (nmL s).map fun b => (b.toNat : Int) := rfl
theorem no_blank {x : ByteArray} (h : nameB (strL x) = true) : (32 : UInt8) ∉ nmL x := fun hm => by
  unfold nameB at h
  rw [Bool.and_eq_true, List.all_eq_true] at h
  have := h.2 32 (by rw [strL_nm]; exact List.mem_map.2 ⟨32, hm, rfl⟩)
  revert this; decide
theorem textG_nm : ∀ r : List ByteArray, textG false r = (r.flatMap fun y => 32 :: nmL y).map fun b => (b.toNat : Int)
  | [] => rfl
  | x :: r => by simp [textG, textG_nm r, strL_nm]
theorem text_nm (l : List ByteArray) : nmL (toS (textN l)) = match l with | [] => [] | x :: r => nmL x ++ r.flatMap (fun y => 32 :: nmL y) := by
  cases l with
  | nil => rfl
  | cons x r =>
    have e : toS (textN (x :: r)) = ofL (nmL x ++ r.flatMap (fun y => 32 :: nmL y)) := by
      refine strL_inj ?_
      rw [strL_toS (show Bytes (textN (x :: r)) from textG_bytes _ _), strL_nm (ofL _), nmL_ofL]
      simp [textN, textG, textG_nm, strL_nm]
    rw [e, nmL_ofL]
theorem check_parts {l : List ByteArray} (h : checkN l = true) : RiseS l ∧ (∀ x ∈ l, nameB (strL x) = true) ∧ l.length ≤ 16 := by
  unfold checkN at h
  rw [Bool.and_eq_true] at h
  obtain ⟨k1, _, k3⟩ := chkG_rise l none h.2
  exact ⟨k1, k3, of_decide_eq_true h.1⟩
theorem back_text {l : List ByteArray} (h : checkN l = true) : okW (textW (toS (textN l))) = true ∧ parseN (toS (textN l)) = l ∧ (toS (textN l)).size ≤ 100000 := by
  obtain ⟨h1, h2, h3⟩ := check_parts h
  have hw : textW (toS (textN l)) = l := by
    unfold textW
    rw [size_toS]
    cases l with
    | nil => rfl
    | cons x r =>
      have hx := (nameB_len (h2 x (by simp))).1
      have hne : ¬ (textN (x :: r)).length = 0 := by
        simp only [textN, textG, List.length_append]
        omega
      rw [if_neg hne]
      exact wordsU_names (x :: r) (by simp) (fun y hy => no_blank (h2 y hy)) _ (text_nm (x :: r))
  have hok : okW (textW (toS (textN l))) = true := by rw [hw]; exact okW_good h2 (by rw [setS_self h1]; exact h3)
  refine ⟨hok, by rw [parsed_good hok, hw, setS_self h1], ?_⟩
  rw [size_toS]
  have := textG_len l true 32 (fun x hx => name_size (h2 x hx))
  have : l.length * (32 + 1) ≤ 16 * 33 := Nat.mul_le_mul h3 (Nat.le_refl _)
  unfold textN
  omega
theorem all_in {l m : List ByteArray} (h : ∀ x ∈ l, x ∈ m) : l.all (hasN m) = true := List.all_eq_true.2 fun x hx => hasN_iff.2 (h x hx)
theorem both_a (a b : List ByteArray) : (setS (a.filter (hasN b))).all (hasN a) = true := all_in fun x hx => (List.mem_filter.1 (mem_setS.1 hx)).1
theorem both_b (a b : List ByteArray) : (setS (a.filter (hasN b))).all (hasN b) = true := all_in fun x hx => hasN_iff.1 (List.mem_filter.1 (mem_setS.1 hx)).2
theorem a_all (a b : List ByteArray) : a.all (hasN (setS (a ++ b))) = true := all_in fun x hx => mem_setS.2 (List.mem_append_left _ hx)
theorem b_all (a b : List ByteArray) : b.all (hasN (setS (a ++ b))) = true := all_in fun x hx => mem_setS.2 (List.mem_append_right _ hx)
theorem parts_all (a b : List ByteArray) : setS (setS (a.filter (hasN b)) ++ setS (a.filter fun x => !hasN b x)) = setS (a ++ []) := setS_congr fun x => by
  rw [List.mem_append, mem_setS, mem_setS, List.mem_filter, List.mem_filter, List.append_nil]
  cases h : hasN b x <;> simp
theorem less_none (a b : List ByteArray) : setS ((setS (a.filter fun x => !hasN b x)).filter (hasN b)) = [] := by
  rw [show (setS (a.filter fun x => !hasN b x)).filter (hasN b) = [] from List.filter_eq_nil_iff.2 fun x hx h => by
    have := (List.mem_filter.1 (mem_setS.1 hx)).2
    rw [h] at this; cases this]
  rfl
theorem both_comm (a b : List ByteArray) : setS (b.filter (hasN a)) = setS (a.filter (hasN b)) := setS_congr fun x => by
  rw [List.mem_filter, List.mem_filter, hasN_iff, hasN_iff]; exact And.comm
theorem all_comm (a b : List ByteArray) : setS (b ++ a) = setS (a ++ b) := setS_congr fun x => by
  rw [List.mem_append, List.mem_append]; exact Or.comm
end Go.Proofs.Ytapalkipdmdceaa
