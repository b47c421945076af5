/- The mathematics of urlenc: texts of bytes, what texts stand for, parts, parameters; over lists of numbers. -/
import Derived.Test.YtcjnhgcopdofhaaDoorKit3
namespace Go.Proofs.YtcjnhgcopdofhaaDoor
open Go Go.RowKit

/-- A byte that stands for itself. -/
def selfB (c : Int) : Bool := decide ((65 ≤ c ∧ c ≤ 90) ∨ (97 ≤ c ∧ c ≤ 122) ∨ (48 ≤ c ∧ c ≤ 57) ∨ c = 42 ∨ c = 45 ∨ c = 46 ∨ c = 95)
def hexU (n : Int) : Int := if n < 10 then 48 + n else 55 + n
def spellB (c : Int) : List Int := if selfB c = true then [c] else if c = 32 then [43] else [37, hexU (c / 16), hexU (c % 16)]
def escL : List Int → List Int
  | [] => []
  | c :: r => spellB c ++ escL r
/-- A digit's worth; -1: none. -/
def hexW (c : Int) : Int := if 48 ≤ c ∧ c ≤ 57 then c - 48 else if 65 ≤ c ∧ c ≤ 70 then c - 55 else if 97 ≤ c ∧ c ≤ 102 then c - 87 else -1
def oneM (c : Int) : Int := if c = 43 then 32 else c
def spelt : List Int → Bool
  | c :: a :: b :: _ => decide (c = 37 ∧ hexW a ≠ -1 ∧ hexW b ≠ -1)
  | _ => false
def looseL : List Int → Nat
  | [] => 0
  | c :: r => if c = 37 ∧ spelt (c :: r) = false then 0 else looseL r + 1
def meanL : List Int → List Int
  | [] => []
  | [c] => [oneM c]
  | [c, d] => [oneM c, oneM d]
  | c :: a :: b :: r => if c = 37 then (16 * hexW a + hexW b) :: meanL r else oneM c :: meanL (a :: b :: r)

theorem hexW_bd (c : Int) : -1 ≤ hexW c ∧ hexW c ≤ 15 := by
  unfold hexW; split
  · omega
  · split
    · omega
    · split <;> omega
theorem hexW_no37 : hexW 37 = -1 := by decide
theorem hexW_no38 : hexW 38 = -1 := by decide
theorem hexW_no61 : hexW 61 = -1 := by decide
theorem hexW_hexU {n : Int} (h0 : 0 ≤ n) (h1 : n < 16) : hexW (hexU n) = n := by
  unfold hexU hexW
  by_cases h : n < 10
  · rw [if_pos h, if_pos (by omega)]; omega
  · rw [if_neg h, if_neg (by omega), if_pos (by omega)]; omega
theorem hexU_bd {n : Int} (h0 : 0 ≤ n) (h1 : n < 16) : 48 ≤ hexU n ∧ hexU n ≤ 70 := by
  unfold hexU; split <;> omega
theorem selfB_bd {c : Int} (h : selfB c = true) : 42 ≤ c ∧ c ≤ 122 ∧ c ≠ 43 ∧ c ≠ 61 := by
  unfold selfB at h
  have := of_decide_eq_true h
  omega
theorem looseL_le : ∀ l : List Int, looseL l ≤ l.length
  | [] => Nat.le_refl _
  | c :: r => by
    have := looseL_le r
    unfold looseL
    split
    · simp
    · simp only [List.length_cons]; omega
theorem meanL_one {c : Int} (r : List Int) (h : c ≠ 37) : meanL (c :: r) = oneM c :: meanL r := by
  match r with
  | [] => rfl
  | [d] => simp [meanL]
  | a :: b :: r => rw [meanL, if_neg h]
theorem meanL_byte (a b : Int) (r : List Int) : meanL (37 :: a :: b :: r) = (16 * hexW a + hexW b) :: meanL r := by
  rw [meanL, if_pos rfl]
theorem looseL_one {c : Int} (r : List Int) (h : c ≠ 37) : looseL (c :: r) = looseL r + 1 := by
  rw [looseL, if_neg (fun k => h k.1)]
theorem spelt_cons {l : List Int} (h : spelt l = true) : ∃ a b r, l = 37 :: a :: b :: r ∧ hexW a ≠ -1 ∧ hexW b ≠ -1 := by
  match l, h with
  | c :: a :: b :: r, h =>
    have := of_decide_eq_true h
    obtain ⟨rfl, h1, h2⟩ := this
    exact ⟨a, b, r, rfl, h1, h2⟩
theorem looseL_byte {a b : Int} (r : List Int) (ha : hexW a ≠ -1) (hb : hexW b ≠ -1) : looseL (37 :: a :: b :: r) = looseL r + 3 := by
  have hs : spelt (37 :: a :: b :: r) = true := decide_eq_true ⟨rfl, ha, hb⟩
  have a37 : a ≠ 37 := fun e => ha (e ▸ hexW_no37)
  have b37 : b ≠ 37 := fun e => hb (e ▸ hexW_no37)
  rw [looseL, if_neg (by rw [hs]; simp), looseL_one _ a37, looseL_one _ b37]
theorem looseL_bad {r : List Int} (h : spelt (37 :: r) = false) : looseL (37 :: r) = 0 := by
  rw [looseL, if_pos ⟨rfl, h⟩]
/-- A text without a loose sign is one of these. -/
theorem loose_all {l : List Int} (h : looseL l = l.length) : l = [] ∨ (∃ c r, l = c :: r ∧ c ≠ 37 ∧ looseL r = r.length) ∨ (∃ a b r, l = 37 :: a :: b :: r ∧ hexW a ≠ -1 ∧ hexW b ≠ -1 ∧ looseL r = r.length) := by
  match l with
  | [] => exact .inl rfl
  | c :: r =>
    by_cases hc : c = 37
    · subst hc
      cases hs : spelt (37 :: r) with
      | false => rw [looseL_bad hs] at h; simp at h
      | true =>
        obtain ⟨a, b, r', e, h1, h2⟩ := spelt_cons hs
        injection e with _ e
        subst e
        rw [looseL_byte _ h1 h2] at h
        exact .inr (.inr ⟨a, b, r', rfl, h1, h2, by simpa using h⟩)
    · rw [looseL_one _ hc] at h
      exact .inr (.inl ⟨c, r, rfl, hc, by simpa using h⟩)
theorem oneM_bd {c : Int} (h : 0 ≤ c ∧ c ≤ 255) : 0 ≤ oneM c ∧ oneM c ≤ 255 := by unfold oneM; split <;> omega
theorem meanL_bytes : ∀ (n : Nat) {l : List Int}, l.length ≤ n → Bytes l → looseL l = l.length → Bytes (meanL l) ∧ (meanL l).length ≤ l.length
  | 0, l, hn, _, _ => by
    have : l = [] := List.eq_nil_of_length_eq_zero (by omega)
    subst this
    exact ⟨.of_mem (by simp [meanL]), by simp [meanL]⟩
  | n + 1, l, hn, hb, h => by
    rcases loose_all h with rfl | ⟨c, r, rfl, hc, hr⟩ | ⟨a, b, r, rfl, ha, hbb, hr⟩
    · exact ⟨.of_mem (by simp [meanL]), by simp [meanL]⟩
    · obtain ⟨i1, i2⟩ := meanL_bytes n (l := r) (by simp at hn; omega) (Bytes.of_mem fun x hx => hb.mem (List.mem_cons_of_mem _ hx)) hr
      rw [meanL_one _ hc]
      refine ⟨.of_mem fun x hx => ?_, by simp; omega⟩
      rcases List.mem_cons.1 hx with rfl | hx
      · exact oneM_bd (hb.mem (by simp))
      · exact i1.mem hx
    · obtain ⟨i1, i2⟩ := meanL_bytes n (l := r) (by simp at hn; omega) (Bytes.of_mem fun x hx => hb.mem (by simp [hx])) hr
      rw [meanL_byte]
      refine ⟨.of_mem fun x hx => ?_, by simp; omega⟩
      rcases List.mem_cons.1 hx with rfl | hx
      · have := hexW_bd a; have := hexW_bd b; omega
      · exact i1.mem hx
theorem Bytes.tail {c : Int} {r : List Int} (h : Bytes (c :: r)) : Bytes r := .of_mem fun _ hx => h.mem (List.mem_cons_of_mem _ hx)
theorem spellB_bytes {c : Int} (h : 0 ≤ c ∧ c ≤ 255) : Bytes (spellB c) := by
  unfold spellB
  split
  · exact .of_mem (by simp; exact h)
  · split
    · exact .of_mem (by decide)
    · have h1 := hexU_bd (n := c / 16) (by omega) (by omega)
      have h2 := hexU_bd (n := c % 16) (by omega) (by omega)
      refine .of_mem fun x hx => ?_
      simp only [List.mem_cons, List.not_mem_nil, or_false] at hx
      rcases hx with rfl | rfl | rfl <;> omega
theorem spellB_len (c : Int) : (spellB c).length ≤ 3 := by unfold spellB; split; simp; split <;> simp
theorem escL_bytes : ∀ {l : List Int}, Bytes l → Bytes (escL l)
  | [], _ => .of_mem (by simp [escL])
  | c :: r, h => by rw [escL]; exact (spellB_bytes (h.mem (by simp))).append (escL_bytes h.tail)
theorem escL_len : ∀ l : List Int, (escL l).length ≤ 3 * l.length
  | [] => by simp [escL]
  | c :: r => by have := escL_len r; have := spellB_len c; rw [escL]; simp; omega
theorem escL_append : ∀ l m : List Int, escL (l ++ m) = escL l ++ escL m
  | [], m => rfl
  | c :: r, m => by rw [List.cons_append, escL, escL, escL_append r m, List.append_assoc]
theorem escL_one (c : Int) : escL [c] = spellB c := by simp [escL]
/-- A byte's text stands for it, whatever follows. -/
theorem spellB_back {c : Int} (h : 0 ≤ c ∧ c ≤ 255) (r : List Int) : meanL (spellB c ++ r) = c :: meanL r ∧ (looseL r = r.length → looseL (spellB c ++ r) = (spellB c ++ r).length) := by
  unfold spellB
  by_cases hs : selfB c = true
  · obtain ⟨h1, h2, h3, h4⟩ := selfB_bd hs
    rw [if_pos hs]
    refine ⟨?_, fun hl => ?_⟩
    · rw [List.singleton_append, meanL_one _ (by omega), oneM, if_neg h3]
    · rw [List.singleton_append, looseL_one _ (by omega), hl]; simp
  · rw [if_neg hs]
    by_cases h32 : c = 32
    · subst h32
      rw [if_pos rfl]
      refine ⟨?_, fun hl => ?_⟩
      · rw [List.singleton_append, meanL_one _ (by decide)]; rfl
      · rw [List.singleton_append, looseL_one _ (by decide), hl]; simp
    · rw [if_neg h32]
      have e1 := hexW_hexU (n := c / 16) (by omega) (by omega)
      have e2 := hexW_hexU (n := c % 16) (by omega) (by omega)
      refine ⟨?_, fun hl => ?_⟩
      · rw [show [37, hexU (c / 16), hexU (c % 16)] ++ r = 37 :: hexU (c / 16) :: hexU (c % 16) :: r from rfl, meanL_byte, e1, e2]
        congr 1; omega
      · rw [show [37, hexU (c / 16), hexU (c % 16)] ++ r = 37 :: hexU (c / 16) :: hexU (c % 16) :: r from rfl, looseL_byte _ (by omega) (by omega), hl]; simp
theorem escL_back : ∀ {l : List Int}, Bytes l → meanL (escL l) = l ∧ looseL (escL l) = (escL l).length
  | [], _ => ⟨rfl, rfl⟩
  | c :: r, h => by
    obtain ⟨i1, i2⟩ := escL_back h.tail
    obtain ⟨j1, j2⟩ := spellB_back (h.mem (x := c) (by simp)) (escL r)
    rw [escL, j1, i1]
    exact ⟨rfl, j2 i2⟩
/-- What is written bears no sign of parts or of values. -/
theorem spellB_signs {c : Int} (h : 0 ≤ c ∧ c ≤ 255) : ∀ x ∈ spellB c, x ≠ 38 ∧ x ≠ 61 := by
  intro x hx
  unfold spellB at hx
  split at hx
  · rename_i hs
    obtain ⟨h1, h2, h3, h4⟩ := selfB_bd hs
    simp at hx; omega
  · split at hx
    · simp at hx; omega
    · have h1 := hexU_bd (n := c / 16) (by omega) (by omega)
      have h2 := hexU_bd (n := c % 16) (by omega) (by omega)
      have k1 : hexU (c / 16) ≠ 61 := by unfold hexU; split <;> omega
      have k2 : hexU (c % 16) ≠ 61 := by unfold hexU; split <;> omega
      simp at hx; omega
theorem escL_signs : ∀ {l : List Int}, Bytes l → ∀ x ∈ escL l, x ≠ 38 ∧ x ≠ 61
  | [], _, x, hx => by simp [escL] at hx
  | c :: r, h, x, hx => by
    rw [escL] at hx
    rcases List.mem_append.1 hx with hx | hx
    · exact spellB_signs (h.mem (by simp)) x hx
    · exact escL_signs h.tail x hx
theorem escL_nil {l : List Int} (h : escL l = []) : l = [] := by
  match l with
  | [] => rfl
  | c :: r =>
    rw [escL] at h
    have := (List.append_eq_nil_iff.1 h).1
    unfold spellB at this
    split at this
    · simp at this
    · split at this <;> simp at this
end Go.Proofs.YtcjnhgcopdofhaaDoor
