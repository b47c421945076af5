/- The mathematics of decimal texts, on: which texts are numbers' texts, step by step; which of two is less; what is read. -/
import Derived.Test.YtkelioafnobolaaDoorDecMath
namespace Go.Proofs.YtkelioafnobolaaDoor
open Go Go.RowKit

def AllD (l : List Int) : Prop := ∀ x ∈ l, 48 ≤ x ∧ x ≤ 57
theorem AllD.at {l : List Int} (h : AllD l) (k : Nat) (hk : k < l.length) : 48 ≤ l.getD k 0 ∧ l.getD k 0 ≤ 57 := by
  rw [List.getD_eq_getElem?_getD, List.getElem?_eq_getElem hk]
  exact h _ (List.getElem_mem hk)
theorem AllD.of_at {l : List Int} (h : ∀ k, k < l.length → 48 ≤ l.getD k 0 ∧ l.getD k 0 ≤ 57) : AllD l := fun x hx => by
  obtain ⟨k, hk, rfl⟩ := List.mem_iff_getElem.1 hx
  have := h k hk
  rwa [List.getD_eq_getElem?_getD, List.getElem?_eq_getElem hk] at this
theorem runL_all : ∀ {l : List Int}, AllD l → runL l = l.length
  | [], _ => rfl
  | c :: r, h => by
    rw [runL, if_pos (isD_iff.2 (h c (by simp))), runL_all (fun x hx => h x (List.mem_cons_of_mem _ hx))]; rfl
theorem all_runL : ∀ {l : List Int}, runL l = l.length → AllD l
  | [], _ => fun x hx => by cases hx
  | c :: r, h => by
    rw [runL] at h
    by_cases hc : isD c = true
    · rw [if_pos hc] at h
      have := all_runL (l := r) (by simpa using h)
      intro x hx
      rcases List.mem_cons.1 hx with rfl | hx
      · exact isD_iff.1 hc
      · exact this x hx
    · rw [if_neg hc] at h
      simp at h
theorem runL_app : ∀ {l : List Int} (e : Int) (r : List Int), AllD l → isD e = false → runL (l ++ e :: r) = l.length
  | [], e, r, _, he => by rw [List.nil_append, runL, if_neg (by rw [he]; decide)]; rfl
  | c :: l, e, r, h, he => by
    rw [List.cons_append, runL, if_pos (isD_iff.2 (h c (by simp))), runL_app e r (fun x hx => h x (List.mem_cons_of_mem _ hx)) he]; rfl

/-- Texts that don't begin with -. -/
theorem formL_plain {l : List Int} (h : l.getD 0 0 ≠ 45) : formL l = true ↔ AllD l ∧ (l.length = 1 ∨ 1 < l.length ∧ l.getD 0 0 ≠ 48) := by
  unfold formL
  rw [decide_eq_true_eq]
  cases l with
  | nil => simp
  | cons c r =>
    rw [List.getD_cons_zero] at h ⊢
    rw [leadL, if_neg h]
    by_cases h48 : c = 48
    · rw [if_pos h48]
      constructor
      · rintro ⟨_, h1⟩
        have : r = [] := List.eq_nil_of_length_eq_zero (by simpa using h1.symm)
        subst this
        exact ⟨fun x hx => by simp at hx; omega, .inl rfl⟩
      · rintro ⟨_, h1 | ⟨_, h1⟩⟩
        · exact ⟨by simp, h1.symm⟩
        · exact absurd h48 h1
    · rw [if_neg h48]
      constructor
      · rintro ⟨_, h1⟩
        refine ⟨all_runL h1, ?_⟩
        cases r with
        | nil => exact .inl rfl
        | cons a t => exact .inr ⟨by simp, h48⟩
      · rintro ⟨h1, _⟩
        exact ⟨by simp, runL_all h1⟩
/-- Texts that begin with -. -/
theorem formL_dash (r : List Int) : formL (45 :: r) = true ↔ r ≠ [] ∧ r.getD 0 0 ≠ 48 ∧ r.getD 0 0 ≠ 45 ∧ formL r = true := by
  have hl : leadL (45 :: r) = if 49 ≤ r.getD 0 0 ∧ r.getD 0 0 ≤ 57 then runL r + 1 else 0 := by rw [leadL, if_pos rfl]
  have h0 : formL (45 :: r) = true ↔ leadL (45 :: r) = r.length + 1 := by
    unfold formL; rw [decide_eq_true_eq]; simp
  rw [h0, hl]
  constructor
  · intro h
    split at h
    · rename_i hc
      have hne : r ≠ [] := fun e => by rw [e] at hc; simp at hc
      have hall := all_runL (l := r) (by omega)
      refine ⟨hne, by omega, by omega, (formL_plain (by omega)).2 ⟨hall, ?_⟩⟩
      have := List.length_pos_iff.2 hne
      rcases Nat.lt_or_ge 1 r.length with h1 | h1
      · exact .inr ⟨h1, by omega⟩
      · exact .inl (by omega)
    · omega
  · rintro ⟨hne, h48, h45, hf⟩
    obtain ⟨hall, _⟩ := (formL_plain h45).1 hf
    have := hall.at 0 (List.length_pos_iff.2 hne)
    rw [if_pos (by omega), runL_all hall]

/-- Behind the first byte, digits alone: the lead, step by step. -/
theorem leadL_tail {c : Int} {ds : List Int} (h : AllD ds) : leadL (c :: ds) = if formL (c :: ds) = true then ds.length + 1 else if c = 48 then 1 else 0 := by
  by_cases hf : formL (c :: ds) = true
  · rw [if_pos hf]
    unfold formL at hf
    rw [decide_eq_true_eq] at hf
    rw [hf.2]; rfl
  · rw [if_neg hf]
    have hne : leadL (c :: ds) ≠ ds.length + 1 := fun e => hf (by unfold formL; rw [decide_eq_true_eq]; exact ⟨by simp, by rw [e]; rfl⟩)
    rw [leadL] at hne ⊢
    by_cases h45 : c = 45
    · subst h45
      rw [if_pos rfl] at hne ⊢
      have h458 : ¬ ((45 : Int) = 48) := by decide
      rw [if_neg h458]
      by_cases hc : 49 ≤ ds.getD 0 0 ∧ ds.getD 0 0 ≤ 57
      · rw [if_pos hc, runL_all h] at hne
        exact absurd rfl hne
      · rw [if_neg hc]
    · rw [if_neg h45] at hne ⊢
      by_cases h48 : c = 48
      · rw [if_pos h48, if_pos h48]
      · rw [if_neg h48] at hne ⊢
        rw [if_neg h48]
        rw [runL] at hne ⊢
        split
        · rename_i hc
          rw [if_pos hc, runL_all h] at hne
          exact absurd rfl hne
        · rfl
/-- A byte that is no digit ends it. -/
theorem leadL_stop {c : Int} {ds : List Int} (e : Int) (r : List Int) (h : AllD ds) (he : isD e = false) : leadL (c :: (ds ++ e :: r)) = leadL (c :: ds) := by
  have hne : ¬ (48 ≤ e ∧ e ≤ 57) := isD_false.1 he
  rw [leadL, leadL, runL_app e r h he]
  by_cases h45 : c = 45
  · rw [if_pos h45, if_pos h45]
    cases ds with
    | nil => rw [List.nil_append, List.getD_cons_zero, if_neg (by omega)]; rfl
    | cons a t =>
      rw [List.cons_append, List.getD_cons_zero, List.getD_cons_zero, runL_all h]
  · rw [if_neg h45, if_neg h45]
    by_cases h48 : c = 48
    · rw [if_pos h48, if_pos h48]
    · rw [if_neg h48, if_neg h48, runL, runL, runL_app e r h he, runL_all h]

theorem form_more {c : Int} {ds : List Int} (e : Int) (h48 : c ≠ 48) (h : AllD (ds ++ [e])) (hf : formL (c :: ds) = true) : formL (c :: (ds ++ [e])) = true := by
  have hds : AllD ds := fun x hx => h x (List.mem_append_left _ hx)
  unfold formL at hf ⊢
  rw [decide_eq_true_eq] at hf ⊢
  refine ⟨by simp, ?_⟩
  have h1 := hf.2
  rw [leadL] at h1 ⊢
  by_cases h45 : c = 45
  · rw [if_pos h45] at h1 ⊢
    cases ds with
    | nil => simp at h1
    | cons a t =>
      rw [List.getD_cons_zero] at h1
      rw [List.cons_append, List.getD_cons_zero]
      by_cases hc : 49 ≤ a ∧ a ≤ 57
      · rw [if_pos hc, ← List.cons_append, runL_all h]; simp
      · rw [if_neg hc] at h1; simp at h1
  · rw [if_neg h45, if_neg h48] at h1 ⊢
    rw [runL] at h1 ⊢
    by_cases hc : isD c = true
    · rw [if_pos hc, runL_all h]; simp
    · rw [if_neg hc] at h1; simp at h1
theorem leadL_step {l : List Int} {k : Nat} (hk : k < l.length) (h : AllD ((l.take (k + 1)).drop 1)) : leadL (l.take (k + 1)) = if formL (l.take (k + 1)) = true then k + 1 else leadL (l.take k) := by
  cases l with
  | nil => simp at hk
  | cons c r =>
    rw [List.take_succ_cons] at h ⊢
    rw [List.drop_succ_cons, List.drop_zero] at h
    have hl : (r.take k).length = k := by rw [List.length_take]; simp at hk; omega
    rw [leadL_tail h, hl]
    by_cases hf : formL (c :: r.take k) = true
    · rw [if_pos hf, if_pos hf]
    · rw [if_neg hf, if_neg hf]
      cases k with
      | zero =>
        rw [List.take_zero, leadL]
        by_cases h48 : c = 48
        · subst h48
          exact absurd (show formL (48 :: List.take 0 r) = true by rw [List.take_zero]; decide) hf
        · rw [if_neg h48]
      | succ k =>
        have hkr : k < r.length := by simp at hk; omega
        have he : r.take (k + 1) = r.take k ++ [r[k]] := by rw [List.take_succ_eq_append_getElem hkr]
        rw [he] at h hf
        have hds : AllD (r.take k) := fun x hx => h x (List.mem_append_left _ hx)
        rw [List.take_succ_cons, leadL_tail hds]
        by_cases hf2 : formL (c :: r.take k) = true
        · by_cases h48 : c = 48
          · have hk0 : k = 0 := by
              subst h48
              obtain ⟨_, h2⟩ := (formL_plain (by simp)).1 hf2
              rcases h2 with h2 | ⟨_, h2⟩
              · rw [List.length_cons, List.length_take] at h2; omega
              · exact absurd rfl h2
            subst hk0
            rw [if_pos h48, if_pos hf2]; rfl
          · exact absurd (form_more _ h48 h hf2) hf
        · rw [if_neg hf2]
theorem leadL_break {l : List Int} {k : Nat} (hk : k < l.length) (h1 : 1 ≤ k) (h : AllD ((l.take k).drop 1)) (he : ¬ (48 ≤ l.getD k 0 ∧ l.getD k 0 ≤ 57)) : leadL l = leadL (l.take k) := by
  cases l with
  | nil => simp at hk
  | cons c r =>
    obtain ⟨j, rfl⟩ : ∃ j, k = j + 1 := ⟨k - 1, by omega⟩
    rw [List.take_succ_cons] at h ⊢
    rw [List.drop_succ_cons, List.drop_zero] at h
    have hj : j < r.length := by simp at hk; omega
    have e1 : r = r.take j ++ r[j] :: r.drop (j + 1) := by rw [List.getElem_cons_drop, List.take_append_drop]
    have e2 : (c :: r).getD (j + 1) 0 = r[j] := by rw [List.getD_cons_succ, List.getD_eq_getElem?_getD, List.getElem?_eq_getElem hj]; rfl
    rw [e2] at he
    have := leadL_stop (c := c) r[j] (r.drop (j + 1)) h (isD_false.2 he)
    rw [← e1] at this
    exact this

/-! ### Which number is less -/
theorem fold_acc : ∀ (l : List Int) (a : Nat), l.foldl (fun a c => a * 10 + (c - 48).toNat) a = a * 10 ^ l.length + valL l
  | [], a => by rw [valL_eq]; simp
  | c :: r, a => by
    rw [List.foldl_cons, fold_acc r, valL_eq (c :: r), List.foldl_cons, fold_acc r, List.length_cons, Nat.pow_succ]
    rw [Nat.add_mul, Nat.zero_mul, Nat.zero_add, Nat.mul_assoc, Nat.mul_comm 10]
    omega
theorem valL_cons (c : Int) (r : List Int) : valL (c :: r) = (c - 48).toNat * 10 ^ r.length + valL r := by
  rw [valL_eq, List.foldl_cons, fold_acc, Nat.zero_mul, Nat.zero_add]
def lexL : List Int → List Int → Bool
  | _, [] => false
  | [], _ :: _ => true
  | a :: x, b :: y => decide (a < b) || (decide (a = b) && lexL x y)
theorem lexL_val : ∀ {a b : List Int}, AllD a → AllD b → a.length = b.length → lexL a b = decide (valL a < valL b)
  | [], [], _, _, _ => rfl
  | a :: x, b :: y, ha, hb, hl => by
    have hl' : x.length = y.length := by simpa using hl
    have hax : AllD x := fun z hz => ha z (List.mem_cons_of_mem _ hz)
    have hby : AllD y := fun z hz => hb z (List.mem_cons_of_mem _ hz)
    have h1 := ha a (by simp)
    have h2 := hb b (by simp)
    have vx := valL_lt x hax
    have vy := valL_lt y hby
    rw [lexL, lexL_val hax hby hl', valL_cons, valL_cons, hl']
    rw [hl'] at vx
    obtain ⟨m, hm⟩ : ∃ m : Nat, a = 48 + (m : Int) := ⟨(a - 48).toNat, by omega⟩
    obtain ⟨k, hk⟩ : ∃ k : Nat, b = 48 + (k : Int) := ⟨(b - 48).toNat, by omega⟩
    have e1 : (a - 48).toNat = m := by omega
    have e2 : (b - 48).toNat = k := by omega
    rw [e1, e2]
    rw [Bool.eq_iff_iff, Bool.or_eq_true, Bool.and_eq_true, decide_eq_true_eq, decide_eq_true_eq, decide_eq_true_eq, decide_eq_true_eq]
    rcases Nat.lt_trichotomy m k with h | h | h
    · have h3 : (m + 1) * 10 ^ y.length ≤ k * 10 ^ y.length := Nat.mul_le_mul_right _ h
      rw [Nat.add_mul, Nat.one_mul] at h3
      exact ⟨fun _ => by omega, fun _ => .inl (by omega)⟩
    · subst h
      exact ⟨fun h4 => by rcases h4 with h4 | ⟨_, h4⟩ <;> omega, fun h4 => .inr ⟨by omega, by omega⟩⟩
    · have h3 : (k + 1) * 10 ^ y.length ≤ m * 10 ^ y.length := Nat.mul_le_mul_right _ h
      rw [Nat.add_mul, Nat.one_mul] at h3
      exact ⟨fun h4 => by rcases h4 with h4 | ⟨h4, _⟩ <;> omega, fun h4 => by omega⟩
/-- The reference's less. -/
def lessL (a b : List Int) : Bool := if a.length ≠ b.length then decide (a.length < b.length) else lexL a b
theorem valL_ge {l : List Int} (h : 49 ≤ l.getD 0 0) : 10 ^ (l.length - 1) ≤ valL l := by
  cases l with
  | nil => simp at h
  | cons c r =>
    rw [List.getD_cons_zero] at h
    rw [valL_cons, List.length_cons, Nat.add_sub_cancel]
    have : 1 * 10 ^ r.length ≤ (c - 48).toNat * 10 ^ r.length := Nat.mul_le_mul_right _ (by omega)
    omega
theorem lessL_val {a b : List Int} (ha : AllD a) (hb : AllD b) (h0 : 49 ≤ a.getD 0 0) (h1 : 49 ≤ b.getD 0 0 ∨ b.length = 1) (hla : 2 ≤ a.length) : lessL a b = decide (valL a < valL b) := by
  unfold lessL
  have va := valL_lt a ha
  have vb := valL_lt b hb
  have wa := valL_ge h0
  split
  · rename_i hne
    rcases Nat.lt_or_ge a.length b.length with h | h
    · have wb := valL_ge (h1.resolve_right (by omega))
      have hp : 10 ^ a.length ≤ 10 ^ (b.length - 1) := Nat.pow_le_pow_right (by decide) (by omega)
      rw [decide_eq_true h, decide_eq_true (by omega)]
    · have hp : 10 ^ b.length ≤ 10 ^ (a.length - 1) := Nat.pow_le_pow_right (by decide) (by omega)
      rw [decide_eq_false (by omega), decide_eq_false (by omega)]
  · rename_i he
    exact lexL_val ha hb (by simpa using he)
theorem bytesLess_lexL : ∀ (a b : List UInt8), Op.bytesLess a b = lexL (a.map fun x => (x.toNat : Int)) (b.map fun x => (x.toNat : Int))
  | [], [] => rfl
  | _ :: _, [] => rfl
  | [], _ :: _ => rfl
  | a :: x, b :: y => by
    rw [Op.bytesLess, bytesLess_lexL x y, List.map_cons, List.map_cons, lexL]
    congr 1
    · rw [Bool.eq_iff_iff, decide_eq_true_eq, decide_eq_true_eq, UInt8.lt_iff_toNat_lt]; omega
    · congr 1
      rw [Bool.eq_iff_iff, beq_iff_eq, decide_eq_true_eq]
      constructor
      · rintro rfl; rfl
      · intro h; exact UInt8.toNat_inj.1 (by omega)
theorem bytesLess_str (s t : ByteArray) : Op.bytesLess s.toList t.toList = lexL (strL s) (strL t) := by
  rw [ByteArray.toList_eq, ByteArray.toList_eq, bytesLess_lexL]; rfl

theorem valL_app (a b : List Int) : valL (a ++ b) = valL a * 10 ^ b.length + valL b := by
  rw [valL_eq, List.foldl_append, fold_acc, ← valL_eq]
theorem valL_take_le (l : List Int) (k : Nat) : valL (l.take k) ≤ valL l := by
  have h := valL_app (l.take k) (l.drop k)
  rw [List.take_append_drop] at h
  have : valL (l.take k) * 1 ≤ valL (l.take k) * 10 ^ (l.drop k).length := Nat.mul_le_mul_left _ (Nat.pow_pos (by decide))
  omega

/-! ### What is read -/
/-- The number of a number's text. -/
def numL (l : List Int) : Int := if l.getD 0 0 = 45 then -(valL (l.drop 1) : Int) else (valL l : Int)
/-- Does it fit? -/
def fitL (l : List Int) (least most : Int) : Bool := decide (-9223372036854775808 ≤ numL l ∧ numL l ≤ 9223372036854775807 ∧ least ≤ numL l ∧ numL l ≤ most)
theorem formL_parts {l : List Int} (h : formL l = true) : (l.getD 0 0 = 45 ∧ AllD (l.drop 1) ∧ 49 ≤ (l.drop 1).getD 0 0 ∧ l = 45 :: l.drop 1) ∨ (l.getD 0 0 ≠ 45 ∧ AllD l ∧ l ≠ [] ∧ (49 ≤ l.getD 0 0 ∨ l.length = 1)) := by
  by_cases h45 : l.getD 0 0 = 45
  · cases l with
    | nil => simp at h45
    | cons c r =>
      rw [List.getD_cons_zero] at h45
      subst h45
      obtain ⟨hne, h1, h2, hf⟩ := (formL_dash r).1 h
      obtain ⟨hall, _⟩ := (formL_plain h2).1 hf
      have := hall.at 0 (List.length_pos_iff.2 hne)
      exact .inl ⟨rfl, hall, by show 49 ≤ r.getD 0 0; omega, rfl⟩
  · obtain ⟨hall, h1⟩ := (formL_plain h45).1 h
    have hne : l ≠ [] := fun e => by subst e; simp at h1
    refine .inr ⟨h45, hall, hne, ?_⟩
    rcases h1 with h1 | ⟨_, h1⟩
    · exact .inr h1
    · have := hall.at 0 (List.length_pos_iff.2 hne)
      exact .inl (by omega)
/-- A text that is a number's is that of its number. -/
theorem prL_numL {l : List Int} (h : formL l = true) : prL (numL l) = l := by
  rcases formL_parts h with ⟨h45, hall, h49, he⟩ | ⟨h45, hall, hne, h1⟩
  · have hv : digL (valL (l.drop 1)) = l.drop 1 := digL_valL _ hall (fun e => by rw [e] at h49; simp at h49) (.inl h49)
    have hpos : 0 < valL (l.drop 1) := by
      have := valL_ge h49
      have : 0 < 10 ^ ((l.drop 1).length - 1) := Nat.pow_pos (by decide)
      omega
    unfold numL prL
    rw [if_pos h45, if_pos (by omega), show (-(valL (l.drop 1) : Int)).natAbs = valL (l.drop 1) by omega, hv]
    exact he.symm
  · unfold numL prL
    rw [if_neg h45, if_neg (by omega), show ((valL l : Nat) : Int).natAbs = valL l by omega, digL_valL _ hall hne h1]
theorem form_digL (n : Nat) : formL (digL n) = true := by
  have h1 := digL_digits n
  have hne := digL_ne n
  have h0 := AllD.at (l := digL n) h1 0 (List.length_pos_iff.2 hne)
  refine (formL_plain (by omega)).2 ⟨h1, ?_⟩
  rcases Nat.eq_zero_or_pos n with h | h
  · subst h; left; rw [digL_one (by decide)]; rfl
  · have := digL_first n h
    rcases Nat.lt_or_ge 1 (digL n).length with h2 | h2
    · exact .inr ⟨h2, by omega⟩
    · left
      have := List.length_pos_iff.2 hne
      omega
theorem form_prL (n : Int) : formL (prL n) = true := by
  unfold prL
  split
  · rename_i h
    have hpos : 0 < n.natAbs := by omega
    have := digL_first n.natAbs hpos
    exact (formL_dash _).2 ⟨digL_ne _, by omega, by omega, form_digL _⟩
  · exact form_digL _
theorem numL_prL (n : Int) : numL (prL n) = n := by
  unfold prL numL
  split
  · rename_i h
    rw [List.getD_cons_zero, if_pos rfl, List.drop_succ_cons, List.drop_zero, valL_digL]; omega
  · rename_i h
    have h0 := AllD.at (l := digL n.natAbs) (digL_digits _) 0 (List.length_pos_iff.2 (digL_ne _))
    rw [if_neg (by omega), valL_digL]; omega
end Go.Proofs.YtkelioafnobolaaDoor
