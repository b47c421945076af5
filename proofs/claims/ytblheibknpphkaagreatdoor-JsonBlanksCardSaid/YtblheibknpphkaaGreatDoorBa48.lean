/- JbRt: merged. -/
import Derived.Test.YtblheibknpphkaaGreatDoorBa10
set_option linter.all false
namespace Go.Proofs.YtblheibknpphkaaGreatDoor
open Go
theorem szLs_app : ∀ (a b : List J), szLs (a ++ b) = szLs a + szLs b
  | [], b => by rw [List.nil_append, szLs, Nat.zero_add]
  | x :: a, b => by rw [List.cons_append, szLs, szLs, szLs_app a b, Nat.add_assoc]
theorem dpLs_le {d : Nat} : ∀ (l : List J), dpLs l ≤ d ↔ ∀ x ∈ l, dpJ x ≤ d
  | [] => by rw [dpLs]; simp
  | x :: r => by
    rw [dpLs, Nat.max_le, dpLs_le r]
    simp
theorem szLs_perm {a b : List J} (h : a.Perm b) : szLs a = szLs b := by
  induction h with
  | nil => rfl
  | cons x _ ih => rw [szLs, szLs, ih]
  | swap x y l => rw [szLs, szLs, szLs, szLs]; omega
  | trans _ _ h1 h2 => rw [h1, h2]
theorem szJ_pos (j : J) : 1 ≤ szJ j := by cases j; rw [szJ]; omega
theorem clean_q {kind n : Int} {s : ByteArray} {p q : Nat} (h : cleanF kind n s p q = true) (h5 : kind ≠ 5) : q = 0 := by
  rw [cleanF_eq] at h
  simp only [Bool.and_eq_true, Bool.or_eq_true, decide_eq_true_eq] at h
  omega
theorem clean_s {kind n : Int} {s : ByteArray} {p q : Nat} (h : cleanF kind n s p q = true) (h3 : kind ≠ 3) : s = ⟨#[]⟩ := by
  rw [cleanF_eq] at h
  simp only [Bool.and_eq_true, Bool.or_eq_true, decide_eq_true_eq] at h
  rcases h.1.1.2 with h | h
  · exact absurd h h3
  · exact h
theorem clean_n {kind n : Int} {s : ByteArray} {p q : Nat} (h : cleanF kind n s p q = true) (h1 : kind ≠ 1) (h2 : kind ≠ 2) : n = 0 := by
  rw [cleanF_eq] at h
  simp only [Bool.and_eq_true, Bool.or_eq_true, decide_eq_true_eq] at h
  omega
end Go.Proofs.YtblheibknpphkaaGreatDoor
