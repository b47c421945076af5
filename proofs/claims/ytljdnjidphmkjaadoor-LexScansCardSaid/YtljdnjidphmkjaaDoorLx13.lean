/- DecMath, DecMath2, LxMath: merged. -/
import Derived.Test.YtljdnjidphmkjaaDoorLx02
set_option linter.all false
namespace Go.Proofs.YtljdnjidphmkjaaDoor
open Go Go.RowKit
theorem isD_false {c : Int} : isD c = false ↔ ¬ (48 ≤ c ∧ c ≤ 57) := by unfold isD; rw [decide_eq_false_iff_not]
/-! ### A number's text -/
/-! ### The number of digits -/
/-! ### How much of a text is a number's -/
end Go.Proofs.YtljdnjidphmkjaaDoor
namespace Go.Proofs.YtljdnjidphmkjaaDoor
open Go Go.RowKit
theorem runL_app : ∀ {l : List Int} (e : Int) (r : List Int), AllD l → isD e = false → runL (l ++ e :: r) = l.length
  | [], e, r, _, he => by rw [List.nil_append, runL, if_neg (by rw [he]; decide)]; rfl
  | c :: l, e, r, h, he => by
    rw [List.cons_append, runL, if_pos (isD_iff.2 (h c (by simp))), runL_app e r (fun x hx => h x (List.mem_cons_of_mem _ hx)) he]; rfl
/-! ### Which number is less -/
/-! ### What is read -/
end Go.Proofs.YtljdnjidphmkjaaDoor
namespace Go.Proofs.YtljdnjidphmkjaaDoor
open Go Go.RowKit
/-! ### Blanks and remarks -/
theorem blankC_iff {c : Int} : blankC c = true ↔ (c = 32 ∨ c = 9 ∨ c = 10 ∨ c = 13) := by unfold blankC; rw [decide_eq_true_eq]
theorem blankC_false {c : Int} : blankC c = false ↔ ¬ (c = 32 ∨ c = 9 ∨ c = 10 ∨ c = 13) := by unfold blankC; rw [decide_eq_false_iff_not]
/-! ### Signs -/
/-! ### Within quotes -/
/-! ### The token ahead -/
end Go.Proofs.YtljdnjidphmkjaaDoor
