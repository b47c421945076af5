/- DecMath, DecMath2, LxMath: merged. -/
import Derived.Test.YtljdnjidphmkjaaDoorLx13
import Derived.Test.YtljdnjidphmkjaaDoorLx24
set_option linter.all false
namespace Go.Proofs.YtljdnjidphmkjaaDoor
open Go Go.RowKit
/-! ### A number's text -/
/-! ### The number of digits -/
theorem valL_lt : ∀ (l : List Int), (∀ x ∈ l, 48 ≤ x ∧ x ≤ 57) → valL l < 10 ^ l.length := fun l => by
  induction l using snocInd with
  | h0 => intro _; decide
  | h1 l c ih =>
    intro h
    have h1 := ih (fun x hx => h x (List.mem_append_left _ hx))
    have h2 := h c (by simp)
    rw [valL_snoc, List.length_append, List.length_cons, List.length_nil, Nat.pow_succ]
    omega
/-! ### How much of a text is a number's -/
end Go.Proofs.YtljdnjidphmkjaaDoor
namespace Go.Proofs.YtljdnjidphmkjaaDoor
open Go Go.RowKit
theorem AllD.of_at {l : List Int} (h : ∀ k, k < l.length → 48 ≤ l.getD k 0 ∧ l.getD k 0 ≤ 57) : AllD l := fun x hx => by
  obtain ⟨k, hk, rfl⟩ := List.mem_iff_getElem.1 hx
  have := h k hk
  rwa [List.getD_eq_getElem?_getD, List.getElem?_eq_getElem hk] at this
/-- Behind the first byte, digits alone: the lead, step by step. -/
theorem leadL_tail {c : Int} {ds : List Int} (h : AllD ds) : leadL (c :: ds) = if formL (c :: ds) = true then ds.length + 1 else if c = 48 then 1 else 0 := by
  by_cases hf : formL (c :: ds) = true
  · rw [if_pos hf]
    unfold formL at hf
    rw [decide_eq_true_eq] at hf
    rw [hf.2]; rfl
  · rw [if_neg hf]
    have hne : leadL (c :: ds) ≠ ds.length + 1 := fun e => hf (by unfold formL; rw [decide_eq_true_eq]; exact ⟨by simp, by rw [e]; rfl⟩)
    rw [leadL] at hne ⊢
    by_cases h45 : c = 45
    · subst h45
      rw [if_pos rfl] at hne ⊢
      have h458 : ¬ ((45 : Int) = 48) := by decide
      rw [if_neg h458]
      by_cases hc : 49 ≤ ds.getD 0 0 ∧ ds.getD 0 0 ≤ 57
      · rw [if_pos hc, runL_all h] at hne
        exact absurd rfl hne
      · rw [if_neg hc]
    · rw [if_neg h45] at hne ⊢
      by_cases h48 : c = 48
      · rw [if_pos h48, if_pos h48]
      · rw [if_neg h48] at hne ⊢
        rw [if_neg h48]
        rw [runL] at hne ⊢
        split
        · rename_i hc
          rw [if_pos hc, runL_all h] at hne
          exact absurd rfl hne
        · rfl
/-- A byte that is no digit ends it. -/
theorem leadL_stop {c : Int} {ds : List Int} (e : Int) (r : List Int) (h : AllD ds) (he : isD e = false) : leadL (c :: (ds ++ e :: r)) = leadL (c :: ds) := by
  have hne : ¬ (48 ≤ e ∧ e ≤ 57) := isD_false.1 he
  rw [leadL, leadL, runL_app e r h he]
  by_cases h45 : c = 45
  · rw [if_pos h45, if_pos h45]
    cases ds with
    | nil => rw [List.nil_append, List.getD_cons_zero, if_neg (by omega)]; rfl
    | cons a t =>
      rw [List.cons_append, List.getD_cons_zero, List.getD_cons_zero, runL_all h]
  · rw [if_neg h45, if_neg h45]
    by_cases h48 : c = 48
    · rw [if_pos h48, if_pos h48]
    · rw [if_neg h48, if_neg h48, runL, runL, runL_app e r h he, runL_all h]
theorem form_more {c : Int} {ds : List Int} (e : Int) (h48 : c ≠ 48) (h : AllD (ds ++ [e])) (hf : formL (c :: ds) = true) : formL (c :: (ds ++ [e])) = true := by
  have hds : AllD ds := fun x hx => h x (List.mem_append_left _ hx)
  unfold formL at hf ⊢
  rw [decide_eq_true_eq] at hf ⊢
  refine ⟨by simp, ?_⟩
  have h1 := hf.2
  rw [leadL] at h1 ⊢
  by_cases h45 : c = 45
  · rw [if_pos h45] at h1 ⊢
    cases ds with
    | nil => simp at h1
    | cons a t =>
      rw [List.getD_cons_zero] at h1
      rw [List.cons_append, List.getD_cons_zero]
      by_cases hc : 49 ≤ a ∧ a ≤ 57
      · rw [if_pos hc, ← List.cons_append, runL_all h]; simp
      · rw [if_neg hc] at h1; simp at h1
  · rw [if_neg h45, if_neg h48] at h1 ⊢
    rw [runL] at h1 ⊢
    by_cases hc : isD c = true
    · rw [if_pos hc, runL_all h]; simp
    · rw [if_neg hc] at h1; simp at h1
theorem leadL_step {l : List Int} {k : Nat} (hk : k < l.length) (h : AllD ((l.take (k + 1)).drop 1)) : leadL (l.take (k + 1)) = if formL (l.take (k + 1)) = true then k + 1 else leadL (l.take k) := by
  cases l with
  | nil => simp at hk
  | cons c r =>
    rw [List.take_succ_cons] at h ⊢
    rw [List.drop_succ_cons, List.drop_zero] at h
    have hl : (r.take k).length = k := by rw [List.length_take]; simp at hk; omega
    rw [leadL_tail h, hl]
    by_cases hf : formL (c :: r.take k) = true
    · rw [if_pos hf, if_pos hf]
    · rw [if_neg hf, if_neg hf]
      cases k with
      | zero =>
        rw [List.take_zero, leadL]
        by_cases h48 : c = 48
        · subst h48
          exact absurd (show formL (48 :: List.take 0 r) = true by rw [List.take_zero]; decide) hf
        · rw [if_neg h48]
      | succ k =>
        have hkr : k < r.length := by simp at hk; omega
        have he : r.take (k + 1) = r.take k ++ [r[k]] := by rw [List.take_succ_eq_append_getElem hkr]
        rw [he] at h hf
        have hds : AllD (r.take k) := fun x hx => h x (List.mem_append_left _ hx)
        rw [List.take_succ_cons, leadL_tail hds]
        by_cases hf2 : formL (c :: r.take k) = true
        · by_cases h48 : c = 48
          · have hk0 : k = 0 := by
              subst h48
              obtain ⟨_, h2⟩ := (formL_plain (by simp)).1 hf2
              rcases h2 with h2 | ⟨_, h2⟩
              · rw [List.length_cons, List.length_take] at h2; omega
              · exact absurd rfl h2
            subst hk0
            rw [if_pos h48, if_pos hf2]; rfl
          · exact absurd (form_more _ h48 h hf2) hf
        · rw [if_neg hf2]
theorem leadL_break {l : List Int} {k : Nat} (hk : k < l.length) (h1 : 1 ≤ k) (h : AllD ((l.take k).drop 1)) (he : ¬ (48 ≤ l.getD k 0 ∧ l.getD k 0 ≤ 57)) : leadL l = leadL (l.take k) := by
  cases l with
  | nil => simp at hk
  | cons c r =>
    obtain ⟨j, rfl⟩ : ∃ j, k = j + 1 := ⟨k - 1, by omega⟩
    rw [List.take_succ_cons] at h ⊢
    rw [List.drop_succ_cons, List.drop_zero] at h
    have hj : j < r.length := by simp at hk; omega
    have e1 : r = r.take j ++ r[j] :: r.drop (j + 1) := by rw [List.getElem_cons_drop, List.take_append_drop]
    have e2 : (c :: r).getD (j + 1) 0 = r[j] := by rw [List.getD_cons_succ, List.getD_eq_getElem?_getD, List.getElem?_eq_getElem hj]; rfl
    rw [e2] at he
    have := leadL_stop (c := c) r[j] (r.drop (j + 1)) h (isD_false.2 he)
    rw [← e1] at this
    exact this
/-! ### Which number is less -/
def lexL : List Int → List Int → Bool
  | _, [] => false
  | [], _ :: _ => true
  | a :: x, b :: y => decide (a < b) || (decide (a = b) && lexL x y)
theorem lexL_val : ∀ {a b : List Int}, AllD a → AllD b → a.length = b.length → lexL a b = decide (valL a < valL b)
  | [], [], _, _, _ => rfl
  | a :: x, b :: y, ha, hb, hl => by
    have hl' : x.length = y.length := by simpa using hl
    have hax : AllD x := fun z hz => ha z (List.mem_cons_of_mem _ hz)
    have hby : AllD y := fun z hz => hb z (List.mem_cons_of_mem _ hz)
    have h1 := ha a (by simp)
    have h2 := hb b (by simp)
    have vx := valL_lt x hax
    have vy := valL_lt y hby
    rw [lexL, lexL_val hax hby hl', valL_cons, valL_cons, hl']
    rw [hl'] at vx
    obtain ⟨m, hm⟩ : ∃ m : Nat, a = 48 + (m : Int) := ⟨(a - 48).toNat, by omega⟩
    obtain ⟨k, hk⟩ : ∃ k : Nat, b = 48 + (k : Int) := ⟨(b - 48).toNat, by omega⟩
    have e1 : (a - 48).toNat = m := by omega
    have e2 : (b - 48).toNat = k := by omega
    rw [e1, e2]
    rw [Bool.eq_iff_iff, Bool.or_eq_true, Bool.and_eq_true, decide_eq_true_eq, decide_eq_true_eq, decide_eq_true_eq, decide_eq_true_eq]
    rcases Nat.lt_trichotomy m k with h | h | h
    · have h3 : (m + 1) * 10 ^ y.length ≤ k * 10 ^ y.length := Nat.mul_le_mul_right _ h
      rw [Nat.add_mul, Nat.one_mul] at h3
      exact ⟨fun _ => by omega, fun _ => .inl (by omega)⟩
    · subst h
      exact ⟨fun h4 => by rcases h4 with h4 | ⟨_, h4⟩ <;> omega, fun h4 => .inr ⟨by omega, by omega⟩⟩
    · have h3 : (k + 1) * 10 ^ y.length ≤ m * 10 ^ y.length := Nat.mul_le_mul_right _ h
      rw [Nat.add_mul, Nat.one_mul] at h3
      exact ⟨fun h4 => by rcases h4 with h4 | ⟨h4, _⟩ <;> omega, fun h4 => by omega⟩
/-- The reference's less. -/
def lessL (a b : List Int) : Bool := if a.length ≠ b.length then decide (a.length < b.length) else lexL a b
theorem lessL_val {a b : List Int} (ha : AllD a) (hb : AllD b) (h0 : 49 ≤ a.getD 0 0) (h1 : 49 ≤ b.getD 0 0 ∨ b.length = 1) (hla : 2 ≤ a.length) : lessL a b = decide (valL a < valL b) := by
  unfold lessL
  have va := valL_lt a ha
  have vb := valL_lt b hb
  have wa := valL_ge h0
  split
  · rename_i hne
    rcases Nat.lt_or_ge a.length b.length with h | h
    · have wb := valL_ge (h1.resolve_right (by omega))
      have hp : 10 ^ a.length ≤ 10 ^ (b.length - 1) := Nat.pow_le_pow_right (by decide) (by omega)
      rw [decide_eq_true h, decide_eq_true (by omega)]
    · have hp : 10 ^ b.length ≤ 10 ^ (a.length - 1) := Nat.pow_le_pow_right (by decide) (by omega)
      rw [decide_eq_false (by omega), decide_eq_false (by omega)]
  · rename_i he
    exact lexL_val ha hb (by simpa using he)
theorem bytesLess_lexL : ∀ (a b : List UInt8), Op.bytesLess a b = lexL (a.map fun x => (x.toNat : Int)) (b.map fun x => (x.toNat : Int))
  | [], [] => rfl
  | _ :: _, [] => rfl
  | [], _ :: _ => rfl
  | a :: x, b :: y => by
    rw [Op.bytesLess, bytesLess_lexL x y, List.map_cons, List.map_cons, lexL]
    congr 1
    · rw [Bool.eq_iff_iff, decide_eq_true_eq, decide_eq_true_eq, UInt8.lt_iff_toNat_lt]; omega
    · congr 1
      rw [Bool.eq_iff_iff, beq_iff_eq, decide_eq_true_eq]
      constructor
      · rintro rfl; rfl
      · intro h; exact UInt8.toNat_inj.1 (by omega)
theorem bytesLess_str (s t : ByteArray) : Op.bytesLess s.toList t.toList = lexL (strL s) (strL t) := by
  rw [ByteArray.toList_eq, ByteArray.toList_eq, bytesLess_lexL]; rfl
/-! ### What is read -/
end Go.Proofs.YtljdnjidphmkjaaDoor
namespace Go.Proofs.YtljdnjidphmkjaaDoor
open Go Go.RowKit
theorem wordN_small : ∀ (l : List Int) (k : Nat), k < wordN l → smallC (l.getD k 0) = true
  | [], k, h => absurd h (Nat.not_lt_zero _)
  | c :: r, k, h => by
    rw [wordN] at h
    split at h
    · rename_i hc
      cases k with
      | zero => exact hc
      | succ k => rw [List.getD_cons_succ]; exact wordN_small r k (by omega)
    · exact absurd h (Nat.not_lt_zero _)
/-! ### Blanks and remarks -/
theorem rem_ne : ∀ (l : List Int) (k : Nat), k < remN l → l.getD k 0 ≠ 10
  | [], k, h => absurd h (Nat.not_lt_zero _)
  | c :: r, k, h => by
    rw [remN] at h
    split at h
    · exact absurd h (Nat.not_lt_zero _)
    · rename_i hc
      cases k with
      | zero => rw [List.getD_cons_zero]; exact hc
      | succ k => rw [List.getD_cons_succ]; exact rem_ne r k (by omega)
theorem rem_end : ∀ (l : List Int), remN l = l.length ∨ (remN l < l.length ∧ l.getD (remN l) 0 = 10)
  | [] => .inl rfl
  | c :: r => by
    rw [remN]
    split
    · rename_i hc; exact .inr ⟨by simp, by rw [List.getD_cons_zero]; exact hc⟩
    · rcases rem_end r with h | ⟨h1, h2⟩
      · exact .inl (by rw [h]; rfl)
      · exact .inr ⟨by simpa using h1, by rw [List.getD_cons_succ]; exact h2⟩
theorem word_end : ∀ (l : List Int), wordN l = l.length ∨ (wordN l < l.length ∧ smallC (l.getD (wordN l) 0) = false)
  | [] => .inl rfl
  | c :: r => by
    rw [wordN]
    split
    · rcases word_end r with h | ⟨h1, h2⟩
      · exact .inl (by rw [h]; rfl)
      · exact .inr ⟨by simpa using h1, by rw [List.getD_cons_succ]; exact h2⟩
    · rename_i hc; exact .inr ⟨by simp, by rw [List.getD_cons_zero]; simpa using hc⟩
/-! ### Signs -/
/-! ### Within quotes -/
/-! ### The token ahead -/
theorem scanF_gap (f : Nat) (l : List Int) (p k : Nat) (acc : List TokM) (h : gapM false l = k + gapM false (l.drop k)) : scanF (f + 1) l p acc = scanF (f + 1) (l.drop k) (p + k) acc := by
  have e : ∀ m, (l.drop k).drop m = l.drop (k + m) := fun m => by rw [List.drop_drop]
  have hk := gapM_le false l
  have hl : (l.length ≤ gapM false l) ↔ ((l.drop k).length ≤ gapM false (l.drop k)) := by rw [List.length_drop]; omega
  conv => lhs; rw [scanF]
  conv => rhs; rw [scanF]
  simp only [e, ← h, ← Nat.add_assoc, hl]
  have e2 : p + k + gapM false (l.drop k) = p + gapM false l := by omega
  simp only [e2]
end Go.Proofs.YtljdnjidphmkjaaDoor
