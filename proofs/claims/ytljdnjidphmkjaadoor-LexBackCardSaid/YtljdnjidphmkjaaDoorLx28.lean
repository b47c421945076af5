/- DecMath, DecMath2, LxQm: merged. -/
import Derived.Test.YtljdnjidphmkjaaDoorLx02
set_option linter.all false
namespace Go.Proofs.YtljdnjidphmkjaaDoor
open Go Go.RowKit
/-! ### A number's text -/
theorem digL_ne (n : Nat) : digL n ≠ [] := by
  by_cases h : n < 10
  · rw [digL_one h]; simp
  · rw [digL_more h]; simp
/-- The first digit of a number above 0 is none of 0. -/
theorem digL_first : ∀ (n : Nat), 0 < n → 49 ≤ (digL n).getD 0 0 := fun n => by
  induction n using Nat.strongRecOn with
  | _ n ih =>
    intro hn
    by_cases h : n < 10
    · rw [digL_one h]; simp; omega
    · rw [digL_more h]
      have h1 := ih (n / 10) (by omega) (by omega)
      have hne := digL_ne (n / 10)
      obtain ⟨c, r, hc⟩ := List.exists_cons_of_ne_nil hne
      rw [hc] at h1 ⊢
      simpa using h1
/-! ### The number of digits -/
theorem valL_digL : ∀ (n : Nat), valL (digL n) = n := fun n => by
  induction n using Nat.strongRecOn with
  | _ n ih =>
    by_cases h : n < 10
    · rw [digL_one h]
      show 0 * 10 + (48 + (n : Int) - 48).toNat = n
      omega
    · rw [digL_more h, valL_snoc, ih (n / 10) (by omega)]
      omega
/-! ### How much of a text is a number's -/
end Go.Proofs.YtljdnjidphmkjaaDoor
namespace Go.Proofs.YtljdnjidphmkjaaDoor
open Go Go.RowKit
/-! ### Which number is less -/
/-! ### What is read -/
theorem form_digL (n : Nat) : formL (digL n) = true := by
  have h1 := digL_digits n
  have hne := digL_ne n
  have h0 := AllD.at (l := digL n) h1 0 (List.length_pos_iff.2 hne)
  refine (formL_plain (by omega)).2 ⟨h1, ?_⟩
  rcases Nat.eq_zero_or_pos n with h | h
  · subst h; left; rw [digL_one (by decide)]; rfl
  · have := digL_first n h
    rcases Nat.lt_or_ge 1 (digL n).length with h2 | h2
    · exact .inr ⟨h2, by omega⟩
    · left
      have := List.length_pos_iff.2 hne
      omega
theorem form_prL (n : Int) : formL (prL n) = true := by
  unfold prL
  split
  · rename_i h
    have hpos : 0 < n.natAbs := by omega
    have := digL_first n.natAbs hpos
    exact (formL_dash _).2 ⟨digL_ne _, by omega, by omega, form_digL _⟩
  · exact form_digL _
theorem numL_prL (n : Int) : numL (prL n) = n := by
  unfold prL numL
  split
  · rename_i h
    rw [List.getD_cons_zero, if_pos rfl, List.drop_succ_cons, List.drop_zero, valL_digL]; omega
  · rename_i h
    have h0 := AllD.at (l := digL n.natAbs) (digL_digits _) 0 (List.length_pos_iff.2 (digL_ne _))
    rw [if_neg (by omega), valL_digL]; omega
end Go.Proofs.YtljdnjidphmkjaaDoor
namespace Go.Proofs.YtljdnjidphmkjaaDoor
open Go Go.RowKit
theorem escN_nil : escN [] = [] := rfl
end Go.Proofs.YtljdnjidphmkjaaDoor
