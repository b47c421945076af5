/- Kit4, DecMath, DecMath2: merged. -/
import Derived.Test.YtblheibknpphkaaGreatDoorBa01
set_option linter.all false
namespace Go.Proofs.YtblheibknpphkaaGreatDoor
open Go Go.RowKit
/-! ### Strings as numbers -/
/-! ### Rows of bytes -/
theorem own_ge {w : World} {base : Nat} {e : TypeId} {size : Nat} {v : Value} {n : Nat} {xs : List Value} (h : w.ownsRow base e size v n xs) : ∀ g, v.ownBlock = some g → base ≤ g := fun g hg => by
  rcases h.2 with ⟨rfl, _⟩ | ⟨g', cap, cur, rfl, hb, _⟩
  · simp [Value.ownBlock] at hg
  · have : g' = g := by simpa [Value.ownBlock] using hg
    omega
section
variable {P : Program} {w : World} {ops : Array Oper} {rest : List Oper} {o : Oper} {a : Act} {Q : Exit → Act → World → Prop}
end
/-! ### Bits of int -/
end Go.Proofs.YtblheibknpphkaaGreatDoor
namespace Go.Proofs.YtblheibknpphkaaGreatDoor
open Go Go.RowKit
/-! ### A number's text -/
/-! ### The number of digits -/
/-- Digits that don't begin with 0 are those of their number. -/
theorem digL_valL : ∀ (l : List Int), (∀ x ∈ l, 48 ≤ x ∧ x ≤ 57) → l ≠ [] → (49 ≤ l.getD 0 0 ∨ l.length = 1) → digL (valL l) = l := fun l => by
  induction l using snocInd with
  | h0 => intro _ h _; exact absurd rfl h
  | h1 l c ih =>
    intro h _ h0
    have h2 := h c (by simp)
    by_cases hl : l = []
    · subst hl
      rw [valL_snoc, digL_one (by show 0 * 10 + (c - 48).toNat < 10; omega)]
      show [48 + (((0 * 10 + (c - 48).toNat : Nat)) : Int)] = [c]
      have : (((0 * 10 + (c - 48).toNat : Nat)) : Int) = c - 48 := by omega
      rw [this]; congr 1; omega
    · have hg : (l ++ [c]).getD 0 0 = l.getD 0 0 := by
        obtain ⟨a, r, rfl⟩ := List.exists_cons_of_ne_nil hl
        rfl
      have hlen : (l ++ [c]).length ≠ 1 := by
        have := List.length_pos_iff.2 hl
        rw [List.length_append, List.length_cons, List.length_nil]; omega
      have h49 : 49 ≤ l.getD 0 0 := by
        rcases h0 with h0 | h0
        · rw [hg] at h0; exact h0
        · exact absurd h0 hlen
      have h1 := ih (fun x hx => h x (List.mem_append_left _ hx)) hl (.inl h49)
      have hpos : 0 < valL l := by
        rcases Nat.eq_zero_or_pos (valL l) with hz | hz
        · rw [hz, digL_one (by decide)] at h1
          rw [← h1] at h49
          simp at h49
        · exact hz
      rw [valL_snoc, digL_more (by omega)]
      have e1 : (valL l * 10 + (c - 48).toNat) / 10 = valL l := by omega
      have e2 : (((valL l * 10 + (c - 48).toNat) % 10 : Nat) : Int) = c - 48 := by omega
      rw [e1, h1, e2]
      congr 2; omega
/-! ### How much of a text is a number's -/
end Go.Proofs.YtblheibknpphkaaGreatDoor
namespace Go.Proofs.YtblheibknpphkaaGreatDoor
open Go Go.RowKit
/-! ### Which number is less -/
/-! ### What is read -/
/-- A text that is a number's is that of its number. -/
theorem prL_numL {l : List Int} (h : formL l = true) : prL (numL l) = l := by
  rcases formL_parts h with ⟨h45, hall, h49, he⟩ | ⟨h45, hall, hne, h1⟩
  · have hv : digL (valL (l.drop 1)) = l.drop 1 := digL_valL _ hall (fun e => by rw [e] at h49; simp at h49) (.inl h49)
    have hpos : 0 < valL (l.drop 1) := by
      have := valL_ge h49
      have : 0 < 10 ^ ((l.drop 1).length - 1) := Nat.pow_pos (by decide)
      omega
    unfold numL prL
    rw [if_pos h45, if_pos (by omega), show (-(valL (l.drop 1) : Int)).natAbs = valL (l.drop 1) by omega, hv]
    exact he.symm
  · unfold numL prL
    rw [if_neg h45, if_neg (by omega), show ((valL l : Nat) : Int).natAbs = valL l by omega, digL_valL _ hall hne h1]
end Go.Proofs.YtblheibknpphkaaGreatDoor
