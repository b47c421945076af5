/- The plain mathematics of decimal texts: a number's text, the number of a text, how much of a text is a number's. -/
import Derived.Test.YtkelioafnobolaaDoorKit4
namespace Go.Proofs.YtkelioafnobolaaDoor
open Go Go.RowKit

def isD (c : Int) : Bool := decide (48 ≤ c ∧ c ≤ 57)
theorem isD_iff {c : Int} : isD c = true ↔ 48 ≤ c ∧ c ≤ 57 := by unfold isD; rw [decide_eq_true_eq]
theorem isD_false {c : Int} : isD c = false ↔ ¬ (48 ≤ c ∧ c ≤ 57) := by unfold isD; rw [decide_eq_false_iff_not]

/-! ### A number's text -/
/-- The digits of a number that isn't below 0. -/
def digL (n : Nat) : List Int := if h : n < 10 then [48 + (n : Int)] else digL (n / 10) ++ [48 + ((n % 10 : Nat) : Int)]
termination_by n
decreasing_by omega
theorem digL_one {n : Nat} (h : n < 10) : digL n = [48 + (n : Int)] := by rw [digL, dif_pos h]
theorem digL_more {n : Nat} (h : ¬ n < 10) : digL n = digL (n / 10) ++ [48 + ((n % 10 : Nat) : Int)] := by rw [digL, dif_neg h]
/-- A number's text. -/
def prL (n : Int) : List Int := if n < 0 then 45 :: digL n.natAbs else digL n.natAbs
theorem digL_digits : ∀ (n : Nat), ∀ x ∈ digL n, 48 ≤ x ∧ x ≤ 57 := fun n => by
  induction n using Nat.strongRecOn with
  | _ n ih =>
    intro x hx
    by_cases h : n < 10
    · rw [digL_one h] at hx
      simp at hx; omega
    · rw [digL_more h] at hx
      rcases List.mem_append.1 hx with hx | hx
      · exact ih (n / 10) (by omega) x hx
      · simp at hx; omega
theorem digL_ne (n : Nat) : digL n ≠ [] := by
  by_cases h : n < 10
  · rw [digL_one h]; simp
  · rw [digL_more h]; simp
/-- The first digit of a number above 0 is none of 0. -/
theorem digL_first : ∀ (n : Nat), 0 < n → 49 ≤ (digL n).getD 0 0 := fun n => by
  induction n using Nat.strongRecOn with
  | _ n ih =>
    intro hn
    by_cases h : n < 10
    · rw [digL_one h]; simp; omega
    · rw [digL_more h]
      have h1 := ih (n / 10) (by omega) (by omega)
      have hne := digL_ne (n / 10)
      obtain ⟨c, r, hc⟩ := List.exists_cons_of_ne_nil hne
      rw [hc] at h1 ⊢
      simpa using h1
theorem digL_bytes (n : Nat) : Bytes (digL n) := .of_mem fun x hx => by have := digL_digits n x hx; omega
theorem prL_bytes (n : Int) : Bytes (prL n) := by
  unfold prL
  split
  · exact .of_mem fun x hx => by
      rcases List.mem_cons.1 hx with rfl | hx
      · decide
      · have := digL_digits _ x hx; omega
  · exact digL_bytes _
theorem digL_len : ∀ (k n : Nat), n < 10 ^ (k + 1) → (digL n).length ≤ k + 1
  | 0, n, h => by rw [digL_one (by simpa using h)]; simp
  | k + 1, n, h => by
    by_cases h' : n < 10
    · rw [digL_one h']; simp
    · rw [digL_more h', List.length_append]
      have := digL_len k (n / 10) (by rw [Nat.pow_succ] at h; omega)
      simp; omega

/-! ### The number of digits -/
def valL : List Int → Nat
  | [] => 0
  | l => l.foldl (fun a c => a * 10 + (c - 48).toNat) 0
theorem valL_eq (l : List Int) : valL l = l.foldl (fun a c => a * 10 + (c - 48).toNat) 0 := by cases l <;> rfl
theorem valL_snoc (l : List Int) (c : Int) : valL (l ++ [c]) = valL l * 10 + (c - 48).toNat := by
  rw [valL_eq, valL_eq, List.foldl_append]; rfl
theorem valL_digL : ∀ (n : Nat), valL (digL n) = n := fun n => by
  induction n using Nat.strongRecOn with
  | _ n ih =>
    by_cases h : n < 10
    · rw [digL_one h]
      show 0 * 10 + (48 + (n : Int) - 48).toNat = n
      omega
    · rw [digL_more h, valL_snoc, ih (n / 10) (by omega)]
      omega
theorem snocInd {P : List Int → Prop} (h0 : P []) (h1 : ∀ l c, P l → P (l ++ [c])) (l : List Int) : P l := by
  rw [← List.reverse_reverse l]
  induction l.reverse with
  | nil => exact h0
  | cons c r ih => rw [List.reverse_cons]; exact h1 _ _ ih
theorem valL_lt : ∀ (l : List Int), (∀ x ∈ l, 48 ≤ x ∧ x ≤ 57) → valL l < 10 ^ l.length := fun l => by
  induction l using snocInd with
  | h0 => intro _; decide
  | h1 l c ih =>
    intro h
    have h1 := ih (fun x hx => h x (List.mem_append_left _ hx))
    have h2 := h c (by simp)
    rw [valL_snoc, List.length_append, List.length_cons, List.length_nil, Nat.pow_succ]
    omega
/-- Digits that don't begin with 0 are those of their number. -/
theorem digL_valL : ∀ (l : List Int), (∀ x ∈ l, 48 ≤ x ∧ x ≤ 57) → l ≠ [] → (49 ≤ l.getD 0 0 ∨ l.length = 1) → digL (valL l) = l := fun l => by
  induction l using snocInd with
  | h0 => intro _ h _; exact absurd rfl h
  | h1 l c ih =>
    intro h _ h0
    have h2 := h c (by simp)
    by_cases hl : l = []
    · subst hl
      rw [valL_snoc, digL_one (by show 0 * 10 + (c - 48).toNat < 10; omega)]
      show [48 + (((0 * 10 + (c - 48).toNat : Nat)) : Int)] = [c]
      have : (((0 * 10 + (c - 48).toNat : Nat)) : Int) = c - 48 := by omega
      rw [this]; congr 1; omega
    · have hg : (l ++ [c]).getD 0 0 = l.getD 0 0 := by
        obtain ⟨a, r, rfl⟩ := List.exists_cons_of_ne_nil hl
        rfl
      have hlen : (l ++ [c]).length ≠ 1 := by
        have := List.length_pos_iff.2 hl
        rw [List.length_append, List.length_cons, List.length_nil]; omega
      have h49 : 49 ≤ l.getD 0 0 := by
        rcases h0 with h0 | h0
        · rw [hg] at h0; exact h0
        · exact absurd h0 hlen
      have h1 := ih (fun x hx => h x (List.mem_append_left _ hx)) hl (.inl h49)
      have hpos : 0 < valL l := by
        rcases Nat.eq_zero_or_pos (valL l) with hz | hz
        · rw [hz, digL_one (by decide)] at h1
          rw [← h1] at h49
          simp at h49
        · exact hz
      rw [valL_snoc, digL_more (by omega)]
      have e1 : (valL l * 10 + (c - 48).toNat) / 10 = valL l := by omega
      have e2 : (((valL l * 10 + (c - 48).toNat) % 10 : Nat) : Int) = c - 48 := by omega
      rw [e1, h1, e2]
      congr 2; omega

/-! ### How much of a text is a number's -/
/-- How many digits stand ahead. -/
def runL : List Int → Nat
  | [] => 0
  | c :: r => if isD c then runL r + 1 else 0
theorem runL_le : ∀ l, runL l ≤ l.length
  | [] => Nat.le_refl _
  | c :: r => by
    have := runL_le r
    rw [runL]; split <;> simp <;> omega
theorem runL_digit : ∀ (l : List Int) (k : Nat), k < runL l → isD (l.getD k 0) = true
  | [], k, h => absurd h (Nat.not_lt_zero _)
  | c :: r, k, h => by
    rw [runL] at h
    split at h
    · rename_i hc
      cases k with
      | zero => exact hc
      | succ k => exact runL_digit r k (by omega)
    · exact absurd h (Nat.not_lt_zero _)
theorem runL_stop : ∀ (l : List Int), runL l < l.length → isD (l.getD (runL l) 0) = false
  | [], h => absurd h (Nat.not_lt_zero _)
  | c :: r, h => by
    rw [runL] at h ⊢
    split
    · rename_i hc
      rw [if_pos hc] at h
      exact runL_stop r (by simpa using h)
    · rename_i hc
      simpa using hc
/-- How many bytes ahead are a number's text, as many as may be. -/
def leadL : List Int → Nat
  | [] => 0
  | c :: r => if c = 45 then (if 49 ≤ r.getD 0 0 ∧ r.getD 0 0 ≤ 57 then runL r + 1 else 0) else if c = 48 then 1 else runL (c :: r)
/-- Is it wholly a number's text? -/
def formL (l : List Int) : Bool := decide (l ≠ [] ∧ leadL l = l.length)
theorem leadL_le : ∀ l, leadL l ≤ l.length
  | [] => Nat.le_refl _
  | c :: r => by
    have h1 := runL_le r
    have h2 := runL_le (c :: r)
    rw [leadL]
    split
    · split
      · simp; omega
      · simp
    · split
      · simp
      · exact h2
end Go.Proofs.YtkelioafnobolaaDoor
