/- JbSub, JbSub2, JbSub3, JbBlanks: merged. -/
import Derived.Shelf.SlicesQ.IndexFunc
import Derived.Shelf.SlSortCmp.InsertionK
import Derived.Sort.Lot0
import Derived.Deep.CutBlock
import Derived.Deep.CutRange
import Derived.Maps.RangeWalk
import Derived.Test.YtblheibknpphkaaGreatDoorBa01
import Derived.Test.YtblheibknpphkaaGreatDoorBa11
import Derived.Test.YtblheibknpphkaaGreatDoorBa22
import Derived.Test.YtblheibknpphkaaGreatDoorBa28
import Derived.Test.YtblheibknpphkaaGreatDoorBa39
set_option linter.all false
namespace Go.Proofs.YtblheibknpphkaaGreatDoor
open Go
def Blank (b : List Int) : Prop := ∀ x ∈ b, isB x = true
/-- l stands in l' behind α bytes; b is what follows. -/
structure Sub (l l' : List Int) (α : Nat) (b : List Int) : Prop where
  le : α + l.length ≤ l'.length
  dr : ∀ i, i ≤ l.length → l'.drop (α + i) = l.drop i ++ b
theorem Sub.mk' (a l b : List Int) : Sub l (a ++ l ++ b) a.length b := ⟨by simp, fun i hi => by
  rw [List.append_assoc, ← List.drop_drop, List.drop_left, List.drop_append_of_le_length hi]⟩
theorem isB_bd {c : Int} (h : isB c = true) : 0 ≤ c ∧ c ≤ 32 := by unfold isB at h; rw [decide_eq_true_eq] at h; omega
theorem Sub.at {l l' b : List Int} {α : Nat} (h : Sub l l' α b) {i : Nat} (hi : i < l.length) : atL l' (α + i) = atL l i := by
  have e := h.dr i (by omega)
  have e1 : atL (l'.drop (α + i)) 0 = atL l' (α + i) := by rw [atL_drop, Nat.add_zero]
  have e2 : atL (l.drop i) 0 = atL l i := by rw [atL_drop, Nat.add_zero]
  rw [← e1, ← e2, e]
  have hd : l.drop i = l[i] :: l.drop (i + 1) := List.drop_eq_getElem_cons hi
  rw [hd]; rfl
theorem Sub.past {l l' b : List Int} {α : Nat} (h : Sub l l' α b) (k : Nat) : atL l' (α + l.length + k) = atL b k := by
  have e := h.dr l.length (Nat.le_refl _)
  rw [List.drop_length, List.nil_append] at e
  rw [← e, atL_drop]
theorem atL_blank {b : List Int} (hb : Blank b) (k : Nat) : atL b k = -1 ∨ isB (atL b k) = true := by
  unfold atL
  rw [List.getD_eq_getElem?_getD]
  cases h : b[k]? with
  | none => exact .inl rfl
  | some x => exact .inr (hb x (List.mem_of_getElem? h))
theorem Sub.over {l l' b : List Int} {α : Nat} (h : Sub l l' α b) (hb : Blank b) : atL l' (α + l.length) = -1 ∨ isB (atL l' (α + l.length)) = true := by
  have := h.past 0
  rw [Nat.add_zero] at this
  rw [this]; exact atL_blank hb 0
theorem atL_past {l : List Int} {i : Nat} (h : l.length ≤ i) : atL l i = -1 := by
  unfold atL; rw [List.getD_eq_getElem?_getD, List.getElem?_eq_none h]; rfl
/-! ### Blanks -/
theorem Sub.skip {l l' b : List Int} {α : Nat} (h : Sub l l' α b) : ∀ (n i : Nat), l.length - i ≤ n → i ≤ l.length → (skipL l i < l.length → skipL l' (α + i) = α + skipL l i) ∧ (¬ skipL l i < l.length → skipL l' (α + i) = skipL l' (α + l.length)) := by
  intro n
  induction n with
  | zero =>
    intro i hn hi
    obtain rfl : i = l.length := by omega
    have e : skipL l l.length = l.length := skipL_stop (by rw [atL_past (Nat.le_refl _)]; decide)
    rw [e]; exact ⟨fun hh => absurd hh (Nat.lt_irrefl _), fun _ => rfl⟩
  | succ n ih =>
    intro i hn hi
    by_cases hlt : i < l.length
    · have ha := h.at hlt
      by_cases hb : isB (atL l i) = true
      · rw [skipL_blank hb, skipL_blank (l := l') (i := α + i) (by rw [ha]; exact hb), Nat.add_assoc]
        exact ih (i + 1) (by omega) (by omega)
      · rw [skipL_stop hb, skipL_stop (l := l') (i := α + i) (by rw [ha]; exact hb)]
        exact ⟨fun _ => rfl, fun hh => absurd hlt hh⟩
    · obtain rfl : i = l.length := by omega
      have e : skipL l l.length = l.length := skipL_stop (by rw [atL_past (Nat.le_refl _)]; decide)
      rw [e]; exact ⟨fun hh => absurd hh (Nat.lt_irrefl _), fun _ => rfl⟩
theorem skip_all {l : List Int} : ∀ (n i : Nat), l.length - i ≤ n → i ≤ l.length → (∀ k, i ≤ k → k < l.length → isB (atL l k) = true) → skipL l i = l.length := by
  intro n
  induction n with
  | zero =>
    intro i hn hi _
    obtain rfl : i = l.length := by omega
    exact skipL_stop (by rw [atL_past (Nat.le_refl _)]; decide)
  | succ n ih =>
    intro i hn hi hk
    by_cases hlt : i < l.length
    · rw [skipL_blank (hk i (Nat.le_refl _) hlt)]
      exact ih (i + 1) (by omega) (by omega) (fun k h1 h2 => hk k (by omega) h2)
    · obtain rfl : i = l.length := by omega
      exact skipL_stop (by rw [atL_past (Nat.le_refl _)]; decide)
theorem Sub.skip_end {l l' b : List Int} {α : Nat} (h : Sub l l' α b) (hb : Blank b) : skipL l' (α + l.length) = l'.length :=
  skip_all _ _ (Nat.le_refl _) h.le fun k h1 h2 => by
    have e := h.past (k - (α + l.length))
    rw [show α + l.length + (k - (α + l.length)) = k by omega] at e
    rcases atL_blank hb (k - (α + l.length)) with h3 | h3
    · exfalso
      have hl : b.length = l'.length - (α + l.length) := by
        have := h.dr l.length (Nat.le_refl _)
        rw [List.drop_length, List.nil_append] at this
        rw [← this, List.length_drop]
      have hlt : k - (α + l.length) < b.length := by omega
      unfold atL at h3
      rw [List.getD_eq_getElem?_getD, List.getElem?_eq_getElem hlt] at h3
      have := isB_bd (hb _ (List.getElem_mem hlt))
      simp at h3
      omega
    · rw [e]; exact h3
/-! ### Letters -/
theorem Sub.nx_ok {l l' b : List Int} {α : Nat} (h : Sub l l' α b) {i : Nat} (hi : i ≤ l.length) (hn : (nxL (l.drop i)).1 ≠ -1) : nxL (l'.drop (α + i)) = nxL (l.drop i) := by
  rw [h.dr i hi]
  have := nx_part (l := l.drop i ++ b) (k := (l.drop i).length) (by rw [List.take_left]; exact hn)
  rw [List.take_left] at this
  exact this
theorem Sub.nx_bad {l l' b : List Int} {α : Nat} (h : Sub l l' α b) (hb : Blank b) {i : Nat} (hi : i < l.length) (hn : (nxL (l.drop i)).1 = -1) : (nxL (l'.drop (α + i))).1 = -1 := by
  rw [h.dr i (by omega)]
  refine Decidable.byContradiction fun hc => ?_
  obtain ⟨p1, p2, p3, p4, _, p6, p7⟩ := nx_found hc
  have hm : 0 < (l.drop i).length := by rw [List.length_drop]; omega
  by_cases hk : (nxL (l.drop i ++ b)).2 ≤ (l.drop i).length
  · have := nx_part' hc hk
    rw [List.take_left] at this
    rw [this] at hn; exact hc hn
  · have hbig : 128 ≤ (nxL (l.drop i ++ b)).1 := Decidable.byContradiction fun hlt => by
      rw [putL_one p6 (by omega)] at p2
      simp at p2; omega
    have hidx : (l.drop i).length < ((l.drop i ++ b).take (nxL (l.drop i ++ b)).2).length := by rw [List.length_take]; omega
    have hel := putL_big hbig (((l.drop i ++ b).take (nxL (l.drop i ++ b)).2)[(l.drop i).length]) (by rw [p1]; exact List.getElem_mem _)
    rw [List.getElem_take, List.getElem_append_right (Nat.le_refl _)] at hel
    have := isB_bd (hb _ (List.getElem_mem (l := b) (n := (l.drop i).length - (l.drop i).length) (by rw [List.length_take, List.length_append] at hidx; omega)))
    omega
/-! ### Numbers -/
theorem noD_blank {c : Int} (h : isB c = true) : isD c = false := isD_false.2 (by have := isB_bd h; omega)
theorem runL_bl {b : List Int} (hb : Blank b) : runL b = 0 := by
  cases b with
  | nil => rfl
  | cons c r => rw [runL, if_neg (by rw [noD_blank (hb c (by simp))]; simp)]
theorem runL_blank {b : List Int} (hb : Blank b) : ∀ r : List Int, runL (r ++ b) = runL r
  | [] => by rw [List.nil_append, runL_bl hb]; rfl
  | c :: r => by rw [List.cons_append, runL, runL, runL_blank hb r]
theorem runL_in {b : List Int} : ∀ r : List Int, runL r < r.length → runL (r ++ b) = runL r
  | [], h => absurd h (Nat.not_lt_zero _)
  | c :: r, h => by
    rw [runL] at h
    rw [List.cons_append, runL, runL]
    by_cases hc : isD c = true
    · rw [if_pos hc] at h
      rw [if_pos hc, if_pos hc, runL_in r (by simpa using h)]
    · rw [if_neg hc, if_neg hc]
theorem getD_app {r b : List Int} (h : r ≠ []) : (r ++ b).getD 0 0 = r.getD 0 0 := by
  cases r with
  | nil => exact absurd rfl h
  | cons c r => rfl
theorem lead_blank {b : List Int} (hb : Blank b) (m : List Int) : leadL (m ++ b) = leadL m := by
  cases m with
  | nil =>
    cases b with
    | nil => rfl
    | cons c r =>
      have h := isB_bd (hb c (by simp))
      have h45 : c ≠ 45 := by omega
      have h48 : c ≠ 48 := by omega
      show leadL (c :: r) = leadL []
      have e : leadL (c :: r) = runL (c :: r) := by rw [leadL, if_neg h45, if_neg h48]
      rw [e, runL_bl hb]; rfl
  | cons c r =>
    rw [List.cons_append, leadL, leadL]
    by_cases h45 : c = 45
    · rw [if_pos h45, if_pos h45, runL_blank hb]
      cases r with
      | nil =>
        have e : ¬ (49 ≤ ([] ++ b : List Int).getD 0 0 ∧ ([] ++ b : List Int).getD 0 0 ≤ 57) := by
          cases b with
          | nil => simp
          | cons c r => have h := isB_bd (hb c (by simp)); simp; omega
        rw [if_neg e, if_neg (by simp)]
      | cons d r => rw [getD_app (by simp)]
    · rw [if_neg h45, if_neg h45]
      by_cases h48 : c = 48
      · rw [if_pos h48, if_pos h48]
      · rw [if_neg h48, if_neg h48, ← List.cons_append, runL_blank hb]
theorem lead_in {b m : List Int} (h0 : leadL m ≠ 0) (h : leadL m < m.length) : leadL (m ++ b) = leadL m := by
  cases m with
  | nil => exact absurd rfl h0
  | cons c r =>
    rw [leadL] at h0 h
    rw [List.cons_append, leadL, leadL]
    by_cases h45 : c = 45
    · rw [if_pos h45] at h0 h
      rw [if_pos h45, if_pos h45]
      by_cases hd : 49 ≤ r.getD 0 0 ∧ r.getD 0 0 ≤ 57
      · rw [if_pos hd] at h0 h
        have hne : r ≠ [] := fun e => by subst e; simp at hd
        rw [getD_app hne, if_pos hd, if_pos hd, runL_in r (by simpa using h)]
      · rw [if_neg hd] at h0; exact absurd rfl h0
    · rw [if_neg h45] at h0 h
      rw [if_neg h45, if_neg h45]
      by_cases h48 : c = 48
      · rw [if_pos h48, if_pos h48]
      · rw [if_neg h48] at h
        rw [if_neg h48, if_neg h48, ← List.cons_append, runL_in _ h]
/-! ### Words -/
theorem Sub.word_ok {l l' b : List Int} {α : Nat} (h : Sub l l' α b) : ∀ (x : List Int) (i : Nat), i ≤ l.length → (∀ c ∈ x, 0 ≤ c) → (wordL l i x).2 = 0 → wordL l' (α + i) x = (α + (wordL l i x).1, 0) ∧ (wordL l i x).1 ≤ l.length
  | [], i, hi, _, _ => ⟨rfl, hi⟩
  | c :: r, i, hi, hx, hw => by
    rw [wordL] at hw ⊢
    by_cases hc : atL l i = c
    · rw [if_pos hc] at hw
      have hlt : i < l.length := atL_lt (by have := hx c (by simp); omega)
      rw [wordL, if_pos ((h.at hlt).trans hc), if_pos hc, Nat.add_assoc]
      exact h.word_ok r (i + 1) (by omega) (fun d hd => hx d (List.mem_cons_of_mem _ hd)) hw
    · rw [if_neg hc] at hw; exact absurd (show (50 : Int) = 0 from hw) (by decide)
theorem Sub.word_bad {l l' b : List Int} {α : Nat} (h : Sub l l' α b) (hb : Blank b) : ∀ (x : List Int) (i : Nat), i ≤ l.length → (∀ c ∈ x, 33 ≤ c) → (wordL l i x).2 ≠ 0 → (wordL l i x).2 = 50 ∧ (wordL l' (α + i) x).2 = 50 ∧ ((wordL l i x).1 < l.length → (wordL l' (α + i) x).1 = α + (wordL l i x).1)
  | [], i, hi, _, hw => absurd rfl hw
  | c :: r, i, hi, hx, hw => by
    rw [wordL] at hw ⊢
    have hc33 := hx c (by simp)
    by_cases hc : atL l i = c
    · rw [if_pos hc] at hw
      have hlt : i < l.length := atL_lt (by omega)
      rw [wordL, if_pos ((h.at hlt).trans hc), if_pos hc, Nat.add_assoc]
      exact h.word_bad hb r (i + 1) (by omega) (fun d hd => hx d (List.mem_cons_of_mem _ hd)) hw
    · rw [if_neg hc]
      have hc2 : atL l' (α + i) ≠ c := by
        by_cases hlt : i < l.length
        · rw [h.at hlt]; exact hc
        · obtain rfl : i = l.length := by omega
          rcases h.over hb with h3 | h3
          · omega
          · have := isB_bd h3; omega
      rw [wordL, if_neg hc2]
      exact ⟨rfl, rfl, fun _ => rfl⟩
/-! ### Digits of base 16 -/
theorem hexD_low {c : Int} (h : c ≤ 32) : hexD c = -1 := by unfold hexD; rw [if_neg (by omega), if_neg (by omega), if_neg (by omega)]
theorem Sub.hex_ok {l l' b : List Int} {α : Nat} (h : Sub l l' α b) : ∀ (k i : Nat) (n : Int), i ≤ l.length → 0 ≤ n → ¬ (hexL l k i n).1 < 0 → hexL l' k (α + i) n = hexL l k i n ∧ i + k ≤ l.length
  | 0, i, n, hi, _, _ => ⟨rfl, hi⟩
  | k + 1, i, n, hi, hn, hx => by
    rw [hexL] at hx ⊢
    by_cases hd : hexD (atL l i) < 0
    · rw [if_pos hd] at hx; exact absurd (show (-1 : Int) < 0 by decide) hx
    · have hlt : i < l.length := atL_lt (fun e => hd (by rw [e]; decide))
      rw [if_neg hd] at hx
      rw [hexL, h.at hlt, if_neg hd, if_neg hd, Nat.add_assoc]
      have := h.hex_ok k (i + 1) _ (by omega) (by omega) hx
      exact ⟨this.1, by omega⟩
theorem Sub.hex_bad {l l' b : List Int} {α : Nat} (h : Sub l l' α b) (hb : Blank b) : ∀ (k i : Nat) (n : Int), i ≤ l.length → 0 ≤ n → (hexL l k i n).1 < 0 → (hexL l' k (α + i) n).1 < 0 ∧ ((hexL l k i n).2.toNat < l.length → (hexL l' k (α + i) n).2.toNat = α + (hexL l k i n).2.toNat)
  | 0, i, n, _, hn, hx => absurd hx (by show ¬ n < 0; omega)
  | k + 1, i, n, hi, hn, hx => by
    rw [hexL] at hx
    have hle := h.le
    by_cases hd : hexD (atL l i) < 0
    · have hd2 : hexD (atL l' (α + i)) < 0 := by
        by_cases hlt : i < l.length
        · rw [h.at hlt]; exact hd
        · obtain rfl : i = l.length := by omega
          rcases h.over hb with h3 | h3
          · rw [h3]; decide
          · rw [hexD_low (isB_bd h3).2]; decide
      have e1 : hexL l (k + 1) i n = (-1, ((min i l.length : Nat) : Int)) := by rw [hexL, if_pos hd]
      have e2 : hexL l' (k + 1) (α + i) n = (-1, ((min (α + i) l'.length : Nat) : Int)) := by rw [hexL, if_pos hd2]
      rw [e1, e2]
      refine ⟨by show (-1 : Int) < 0; decide, fun hl => ?_⟩
      replace hl : (((min i l.length : Nat) : Int)).toNat < l.length := hl
      show (((min (α + i) l'.length : Nat) : Int)).toNat = α + (((min i l.length : Nat) : Int)).toNat
      omega
    · have hlt : i < l.length := atL_lt (fun e => hd (by rw [e]; decide))
      rw [if_neg hd] at hx
      have e1 : hexL l (k + 1) i n = hexL l k (i + 1) (16 * n + hexD (atL l i)) := by rw [hexL, if_neg hd]
      have e2 : hexL l' (k + 1) (α + i) n = hexL l' k (α + (i + 1)) (16 * n + hexD (atL l i)) := by rw [hexL, h.at hlt, if_neg hd, Nat.add_assoc]
      rw [e1, e2]
      exact h.hex_bad hb k (i + 1) _ (by omega) (by omega) hx
end Go.Proofs.YtblheibknpphkaaGreatDoor
namespace Go.Proofs.YtblheibknpphkaaGreatDoor
open Go
/-- Within blanks at the end no text within quotes ends. -/
theorem Sub.quot_tail {l l' b : List Int} {α : Nat} (h : Sub l l' α b) (hb : Blank b) : ∀ (f j : Nat) (out : List Int), α + l.length ≤ j → (quotL l' f j out).2.2 = 50
  | 0, j, out, _ => rfl
  | f + 1, j, out, hj => by
    have hc : atL l' j = -1 ∨ isB (atL l' j) = true := by
      have := h.past (j - (α + l.length))
      rw [show α + l.length + (j - (α + l.length)) = j by omega] at this
      rw [this]; exact atL_blank hb _
    rw [quotL]
    by_cases h1 : atL l' j < 32
    · rw [if_pos h1]
    · have h32 : atL l' j = 32 := by
        rcases hc with hc | hc
        · omega
        · have := isB_bd hc; omega
      rw [if_neg h1, if_neg (by omega), if_pos (by omega)]
      have hlt : j < l'.length := atL_lt (by omega)
      have hd : l'.drop j = 32 :: l'.drop (j + 1) := by
        rw [List.drop_eq_getElem_cons hlt]
        congr 1
        unfold atL at h32
        rw [List.getD_eq_getElem?_getD, List.getElem?_eq_getElem hlt] at h32
        exact h32
      have hnx : nxL (l'.drop j) = (32, 1) := by
        rw [hd]
        exact nx_put (n := 32) (by decide) (l'.drop (j + 1))
      rw [hnx, if_neg (by show ¬ (32 : Int) < 0; decide)]
      exact h.quot_tail hb f (j + 1) _ (by omega)
theorem plainL_low {c : Int} (h : c ≤ 33) : plainL c = [] := by
  unfold plainL
  rw [if_neg (by omega), if_neg (by omega), if_neg (by omega), if_neg (by omega), if_neg (by omega), if_neg (by omega)]
theorem take_sub {l l' b : List Int} {α : Nat} (h : Sub l l' α b) {i k : Nat} (hi : i ≤ l.length) (hk : k ≤ (l.drop i).length) : (l'.drop (α + i)).take k = (l.drop i).take k := by
  rw [h.dr i hi, List.take_append_of_le_length hk]
/-- The low half, where all of it stands in l. -/
theorem Sub.half_in {l l' b : List Int} {α : Nat} (h : Sub l l' α b) {i : Nat} (hi : i + 6 ≤ l.length) (hh : ¬ (halfL l i < 56320 ∨ 57343 < halfL l i)) : halfL l' (α + i) = halfL l i ∧ i + 12 ≤ l.length := by
  unfold halfL at hh ⊢
  by_cases hc : atL l (i + 6) = 92 ∧ atL l (i + 7) = 117
  · have l6 : i + 6 < l.length := atL_lt (by omega)
    have l7 : i + 7 < l.length := atL_lt (by omega)
    rw [if_pos hc] at hh ⊢
    have e6 := h.at l6
    have e7 := h.at l7
    obtain ⟨x1, x2⟩ := h.hex_ok 4 (i + 8) 0 (by omega) (Int.le_refl _) (by omega)
    rw [if_pos ⟨by rw [Nat.add_assoc, e6]; exact hc.1, by rw [Nat.add_assoc, e7]; exact hc.2⟩, Nat.add_assoc, x1]
    exact ⟨rfl, by omega⟩
  · rw [if_neg hc] at hh
    exact absurd (.inl (by decide)) hh
theorem Sub.half_out {l l' b : List Int} {α : Nat} (h : Sub l l' α b) (hb : Blank b) {i : Nat} (hi : i + 6 ≤ l.length) (hh : halfL l i < 56320 ∨ 57343 < halfL l i) : halfL l' (α + i) < 56320 ∨ 57343 < halfL l' (α + i) := by
  by_cases hc : atL l' (α + i + 6) = 92 ∧ atL l' (α + i + 7) = 117
  · -- both signs stand in l
    have in6 : i + 6 < l.length := Decidable.byContradiction fun hn => by
      have e : i + 6 = l.length := by omega
      have := h.over hb
      rw [← e, ← Nat.add_assoc] at this
      rcases this with h3 | h3
      · omega
      · have := isB_bd h3; omega
    have in7 : i + 7 < l.length := Decidable.byContradiction fun hn => by
      have e : i + 7 = l.length := by omega
      have := h.over hb
      rw [← e, ← Nat.add_assoc] at this
      rcases this with h3 | h3
      · omega
      · have := isB_bd h3; omega
    have e6 := h.at in6
    have e7 := h.at in7
    rw [← Nat.add_assoc] at e6 e7
    have hc2 : atL l (i + 6) = 92 ∧ atL l (i + 7) = 117 := ⟨e6 ▸ hc.1, e7 ▸ hc.2⟩
    have v1 : halfL l i = (hexL l 4 (i + 8) 0).1 := by unfold halfL; rw [if_pos hc2]
    have v2 : halfL l' (α + i) = (hexL l' 4 (α + (i + 8)) 0).1 := by unfold halfL; rw [if_pos hc, Nat.add_assoc]
    rw [v1] at hh
    rw [v2]
    by_cases hneg : (hexL l 4 (i + 8) 0).1 < 0
    · have := (h.hex_bad hb 4 (i + 8) 0 (by omega) (Int.le_refl _) hneg).1
      exact .inl (by omega)
    · rw [(h.hex_ok 4 (i + 8) 0 (by omega) (Int.le_refl _) hneg).1]; exact hh
  · have v2 : halfL l' (α + i) = -1 := by unfold halfL; rw [if_neg hc]
    rw [v2]; exact .inl (by decide)
theorem Sub.quot_ok {l l' b : List Int} {α : Nat} (h : Sub l l' α b) : ∀ (f f' i : Nat) (out : List Int), l.length - i < f → l'.length - (α + i) < f' → i ≤ l.length → (quotL l f i out).2.2 = 0 →
    quotL l' f' (α + i) out = ((quotL l f i out).1, α + (quotL l f i out).2.1, 0) ∧ (quotL l f i out).2.1 ≤ l.length
  | 0, _, _, _, hf, _, _, _ => absurd hf (Nat.not_lt_zero _)
  | _, 0, _, _, _, hf, _, _ => absurd hf (Nat.not_lt_zero _)
  | f + 1, f' + 1, i, out, hf, hf', hi, hq => by
    have hle := h.le
    rw [quotL] at hq
    by_cases h1 : atL l i < 32
    · rw [if_pos h1] at hq; exact absurd (show (50 : Int) = 0 from hq) (by decide)
    rw [if_neg h1] at hq
    have hlt : i < l.length := atL_lt (by omega)
    have ha := h.at hlt
    by_cases h2 : atL l i = 34
    · rw [quotL, quotL, ha, if_neg h1, if_neg h1, if_pos h2, if_pos h2]
      exact ⟨by rw [Nat.add_assoc], by show i + 1 ≤ l.length; omega⟩
    rw [if_neg h2] at hq
    by_cases h3 : atL l i ≠ 92
    · rw [if_pos h3] at hq
      by_cases h4 : (nxL (l.drop i)).1 < 0
      · rw [if_pos h4] at hq; exact absurd (show (50 : Int) = 0 from hq) (by decide)
      rw [if_neg h4] at hq
      have hn := h.nx_ok hi (show (nxL (l.drop i)).1 ≠ -1 by omega)
      obtain ⟨_, _, g3, g4, _, _, _⟩ := nx_found (l := l.drop i) (by omega)
      have hm : i + (nxL (l.drop i)).2 ≤ l.length := by rw [List.length_drop] at g4; omega
      have ht := take_sub h hi g4
      rw [quotL, quotL, ha, if_neg h1, if_neg h1, if_neg h2, if_neg h2, if_pos h3, if_pos h3, hn, if_neg h4, if_neg h4, ht, Nat.add_assoc]
      exact h.quot_ok f f' (i + (nxL (l.drop i)).2) _ (by omega) (by omega) hm hq
    rw [if_neg h3] at hq
    have h92 : atL l i = 92 := by omega
    by_cases h5 : atL l (i + 1) ≠ 117
    · rw [if_pos h5] at hq
      by_cases h6 : plainL (atL l (i + 1)) = []
      · rw [if_pos h6] at hq; exact absurd (show (50 : Int) = 0 from hq) (by decide)
      rw [if_neg h6] at hq
      have hlt1 : i + 1 < l.length := atL_lt (fun e => h6 (by rw [e]; decide))
      have ha1 := h.at hlt1
      rw [← Nat.add_assoc] at ha1
      rw [quotL, quotL, ha, ha1, if_neg h1, if_neg h1, if_neg h2, if_neg h2, if_neg h3, if_neg h3, if_pos h5, if_pos h5, if_neg h6, if_neg h6, Nat.add_assoc]
      exact h.quot_ok f f' (i + 2) _ (by omega) (by omega) (by omega) hq
    rw [if_neg h5] at hq
    have hlt1 : i + 1 < l.length := atL_lt (by omega)
    have ha1 := h.at hlt1
    rw [← Nat.add_assoc] at ha1
    by_cases h7 : (hexL l 4 (i + 2) 0).1 < 0
    · rw [if_pos h7] at hq; exact absurd (show (50 : Int) = 0 from hq) (by decide)
    rw [if_neg h7] at hq
    obtain ⟨x1, x2⟩ := h.hex_ok 4 (i + 2) 0 (by omega) (Int.le_refl _) h7
    rw [← Nat.add_assoc] at x1
    by_cases h8 : (hexL l 4 (i + 2) 0).1 < 55296 ∨ 57343 < (hexL l 4 (i + 2) 0).1
    · rw [if_pos h8] at hq
      rw [quotL, quotL, ha, ha1, x1, if_neg h1, if_neg h1, if_neg h2, if_neg h2, if_neg h3, if_neg h3, if_neg h5, if_neg h5, if_neg h7, if_neg h7, if_pos h8, if_pos h8, Nat.add_assoc]
      exact h.quot_ok f f' (i + 6) _ (by omega) (by omega) (by omega) hq
    rw [if_neg h8] at hq
    by_cases h9 : 56320 ≤ (hexL l 4 (i + 2) 0).1 ∨ halfL l i < 56320 ∨ 57343 < halfL l i
    · rw [if_pos h9] at hq; exact absurd (show (50 : Int) = 0 from hq) (by decide)
    rw [if_neg h9] at hq
    obtain ⟨y1, y2⟩ := h.half_in (i := i) (by omega) (fun hc => h9 (.inr hc))
    rw [quotL, quotL, ha, ha1, x1, y1, if_neg h1, if_neg h1, if_neg h2, if_neg h2, if_neg h3, if_neg h3, if_neg h5, if_neg h5, if_neg h7, if_neg h7, if_neg h8, if_neg h8, if_neg h9, if_neg h9, Nat.add_assoc]
    exact h.quot_ok f f' (i + 12) _ (by omega) (by omega) (by omega) hq
/-- What is wrong stays so, blanks behind it, and at its place. -/
def WrongAs (l : List Int) (α : Nat) (e e' : Int) (p p' : Nat) : Prop := e' = e ∧ (p < l.length → p' = α + p)
theorem Sub.quot_bad {l l' b : List Int} {α : Nat} (h : Sub l l' α b) (hb : Blank b) : ∀ (f f' i : Nat) (out : List Int), l.length - i < f → l'.length - (α + i) < f' → i ≤ l.length → (quotL l f i out).2.2 ≠ 0 →
    WrongAs l α (quotL l f i out).2.2 (quotL l' f' (α + i) out).2.2 (quotL l f i out).2.1 (quotL l' f' (α + i) out).2.1
  | 0, _, _, _, hf, _, _, _ => absurd hf (Nat.not_lt_zero _)
  | _, 0, _, _, _, hf, _, _ => absurd hf (Nat.not_lt_zero _)
  | f + 1, f' + 1, i, out, hf, hf', hi, hq => by
    have hle := h.le
    by_cases hlt : i < l.length
    case neg =>
      obtain rfl : i = l.length := by omega
      have e1 : quotL l (f + 1) l.length out = ([], l.length, 50) := by rw [quotL, if_pos (by rw [atL_past (Nat.le_refl _)]; decide)]
      rw [e1]
      exact ⟨h.quot_tail hb _ _ _ (Nat.le_refl _), fun hh => absurd hh (Nat.lt_irrefl _)⟩
    case pos =>
    have ha := h.at hlt
    rw [quotL] at hq
    by_cases h1 : atL l i < 32
    · rw [quotL, quotL, ha, if_pos h1, if_pos h1]
      exact ⟨rfl, fun _ => rfl⟩
    rw [if_neg h1] at hq
    by_cases h2 : atL l i = 34
    · rw [if_pos h2] at hq; exact absurd rfl hq
    rw [if_neg h2] at hq
    by_cases h3 : atL l i ≠ 92
    · rw [if_pos h3] at hq
      by_cases h4 : (nxL (l.drop i)).1 < 0
      · have hn1 := (nx_bd (l.drop i)).1
        have hn := h.nx_bad hb hlt (show (nxL (l.drop i)).1 = -1 by omega)
        rw [quotL, quotL, ha, if_neg h1, if_neg h1, if_neg h2, if_neg h2, if_pos h3, if_pos h3, if_pos h4, if_pos (by rw [hn]; decide)]
        exact ⟨rfl, fun _ => rfl⟩
      rw [if_neg h4] at hq
      have hn := h.nx_ok hi (show (nxL (l.drop i)).1 ≠ -1 by omega)
      obtain ⟨_, _, g3, g4, _, _, _⟩ := nx_found (l := l.drop i) (by omega)
      have hm : i + (nxL (l.drop i)).2 ≤ l.length := by rw [List.length_drop] at g4; omega
      have ht := take_sub h hi g4
      rw [quotL, quotL, ha, if_neg h1, if_neg h1, if_neg h2, if_neg h2, if_pos h3, if_pos h3, hn, if_neg h4, if_neg h4, ht, Nat.add_assoc]
      exact h.quot_bad hb f f' (i + (nxL (l.drop i)).2) _ (by omega) (by omega) hm hq
    rw [if_neg h3] at hq
    by_cases h5 : atL l (i + 1) ≠ 117
    · rw [if_pos h5] at hq
      by_cases h6 : plainL (atL l (i + 1)) = []
      · have g : atL l' (α + i + 1) ≠ 117 ∧ plainL (atL l' (α + i + 1)) = [] := by
          by_cases hlt1 : i + 1 < l.length
          · have ha1 := h.at hlt1
            rw [← Nat.add_assoc] at ha1
            rw [ha1]; exact ⟨h5, h6⟩
          · have e : i + 1 = l.length := by omega
            have := h.over hb
            rw [← e, ← Nat.add_assoc] at this
            rcases this with h7 | h7
            · rw [h7]; exact ⟨by decide, by decide⟩
            · have := isB_bd h7
              exact ⟨by omega, plainL_low (by omega)⟩
        rw [quotL, quotL, ha, if_neg h1, if_neg h1, if_neg h2, if_neg h2, if_neg h3, if_neg h3, if_pos h5, if_pos g.1, if_pos h6, if_pos g.2]
        exact ⟨rfl, fun _ => Nat.add_assoc _ _ _⟩
      rw [if_neg h6] at hq
      have hlt1 : i + 1 < l.length := atL_lt (fun e => h6 (by rw [e]; decide))
      have ha1 := h.at hlt1
      rw [← Nat.add_assoc] at ha1
      rw [quotL, quotL, ha, ha1, if_neg h1, if_neg h1, if_neg h2, if_neg h2, if_neg h3, if_neg h3, if_pos h5, if_pos h5, if_neg h6, if_neg h6, Nat.add_assoc]
      exact h.quot_bad hb f f' (i + 2) _ (by omega) (by omega) (by omega) hq
    rw [if_neg h5] at hq
    have hlt1 : i + 1 < l.length := atL_lt (by omega)
    have ha1 := h.at hlt1
    rw [← Nat.add_assoc] at ha1
    by_cases h7 : (hexL l 4 (i + 2) 0).1 < 0
    · have hx := h.hex_bad hb 4 (i + 2) 0 (by omega) (Int.le_refl _) h7
      rw [← Nat.add_assoc] at hx
      rw [quotL, quotL, ha, ha1, if_neg h1, if_neg h1, if_neg h2, if_neg h2, if_neg h3, if_neg h3, if_neg h5, if_neg h5, if_pos h7, if_pos hx.1]
      exact ⟨rfl, hx.2⟩
    rw [if_neg h7] at hq
    obtain ⟨x1, x2⟩ := h.hex_ok 4 (i + 2) 0 (by omega) (Int.le_refl _) h7
    rw [← Nat.add_assoc] at x1
    by_cases h8 : (hexL l 4 (i + 2) 0).1 < 55296 ∨ 57343 < (hexL l 4 (i + 2) 0).1
    · rw [if_pos h8] at hq
      rw [quotL, quotL, ha, ha1, x1, if_neg h1, if_neg h1, if_neg h2, if_neg h2, if_neg h3, if_neg h3, if_neg h5, if_neg h5, if_neg h7, if_neg h7, if_pos h8, if_pos h8, Nat.add_assoc]
      exact h.quot_bad hb f f' (i + 6) _ (by omega) (by omega) (by omega) hq
    rw [if_neg h8] at hq
    by_cases h9 : 56320 ≤ (hexL l 4 (i + 2) 0).1 ∨ halfL l i < 56320 ∨ 57343 < halfL l i
    · have g9 : 56320 ≤ (hexL l 4 (i + 2) 0).1 ∨ halfL l' (α + i) < 56320 ∨ 57343 < halfL l' (α + i) := by
        rcases h9 with hh | hh
        · exact .inl hh
        · exact .inr (h.half_out hb (by omega) hh)
      rw [quotL, quotL, ha, ha1, x1, if_neg h1, if_neg h1, if_neg h2, if_neg h2, if_neg h3, if_neg h3, if_neg h5, if_neg h5, if_neg h7, if_neg h7, if_neg h8, if_neg h8, if_pos h9, if_pos g9]
      exact ⟨rfl, fun _ => rfl⟩
    rw [if_neg h9] at hq
    obtain ⟨y1, y2⟩ := h.half_in (i := i) (by omega) (fun hc => h9 (.inr hc))
    rw [quotL, quotL, ha, ha1, x1, y1, if_neg h1, if_neg h1, if_neg h2, if_neg h2, if_neg h3, if_neg h3, if_neg h5, if_neg h5, if_neg h7, if_neg h7, if_neg h8, if_neg h8, if_neg h9, if_neg h9, Nat.add_assoc]
    exact h.quot_bad hb f f' (i + 12) _ (by omega) (by omega) (by omega) hq
theorem Sub.quoted_ok {l l' b : List Int} {α : Nat} (h : Sub l l' α b) {i : Nat} (hi : i ≤ l.length) (hq : (quotedL l i).2.2 = 0) : quotedL l' (α + i) = ((quotedL l i).1, α + (quotedL l i).2.1, 0) ∧ (quotedL l i).2.1 ≤ l.length := by
  unfold quotedL at hq ⊢
  by_cases h1 : atL l i ≠ 34
  · rw [if_pos h1] at hq; exact absurd (show (50 : Int) = 0 from hq) (by decide)
  · have hlt : i < l.length := atL_lt (by omega)
    rw [if_neg h1] at hq
    rw [h.at hlt, if_neg h1, if_neg h1, Nat.add_assoc]
    exact h.quot_ok _ _ (i + 1) [] (by omega) (by omega) (by omega) hq
theorem Sub.quoted_bad {l l' b : List Int} {α : Nat} (h : Sub l l' α b) (hb : Blank b) {i : Nat} (hi : i ≤ l.length) (hq : (quotedL l i).2.2 ≠ 0) : WrongAs l α (quotedL l i).2.2 (quotedL l' (α + i)).2.2 (quotedL l i).2.1 (quotedL l' (α + i)).2.1 := by
  unfold quotedL at hq ⊢
  by_cases h1 : atL l i ≠ 34
  · have g1 : atL l' (α + i) ≠ 34 := by
      by_cases hlt : i < l.length
      · rw [h.at hlt]; exact h1
      · obtain rfl : i = l.length := by omega
        rcases h.over hb with h3 | h3
        · omega
        · have := isB_bd h3; omega
    rw [if_pos h1, if_pos g1]
    exact ⟨rfl, fun _ => rfl⟩
  · have hlt : i < l.length := atL_lt (by omega)
    rw [if_neg h1] at hq
    rw [h.at hlt, if_neg h1, if_neg h1, Nat.add_assoc]
    exact h.quot_bad hb _ _ (i + 1) [] (by omega) (by omega) (by omega) hq
end Go.Proofs.YtblheibknpphkaaGreatDoor
namespace Go.Proofs.YtblheibknpphkaaGreatDoor
open Go
/-- What is told of a value in l, and in l'. -/
def RelV (l l' : List Int) (α : Nat) (b : List Int) (r r' : VR) : Prop :=
  (r.2.2.2 = 0 → (r.2.1 < l.length ∨ 3 ≤ r.1.kind ∨ Blank b) → ∃ p0, p0 ≤ l.length ∧ r.2.1 = skipL l p0 ∧ r' = (r.1, skipL l' (α + p0), r.2.2.1, 0)) ∧
  (r.2.2.2 ≠ 0 → Blank b → WrongAs l α r.2.2.2 r'.2.2.2 r.2.1 r'.2.1)
/-- A place in l, and in l'. -/
def PosR (l l' : List Int) (α : Nat) (b : List Int) (a a' : Nat) : Prop := a ≤ l.length ∧ (a < l.length → a' = α + a) ∧ (a = l.length → Blank b → a' = l'.length)
theorem Sub.pos_skip {l l' b : List Int} {α : Nat} (h : Sub l l' α b) {x : Nat} (hx : x ≤ l.length) : PosR l l' α b (skipL l x) (skipL l' (α + x)) := by
  obtain ⟨s1, s2⟩ := h.skip _ x (Nat.le_refl _) hx
  refine ⟨(skipL_ge hx).2, s1, fun e hb => ?_⟩
  rw [s2 (by omega), h.skip_end hb]
theorem RelV.both {l l' b : List Int} {α : Nat} {r r' : VR} (h : r.2.2.2 ≠ 0) (h2 : Blank b → WrongAs l α r.2.2.2 r'.2.2.2 r.2.1 r'.2.1) : RelV l l' α b r r' := ⟨fun e => absurd e h, fun _ => h2⟩
theorem RelV.ends {l l' b : List Int} {α : Nat} {r r' : VR} (h : r.2.2.2 = 50) (hp : ¬ r.2.1 < l.length) (h2 : Blank b → r'.2.2.2 = 50) : RelV l l' α b r r' :=
  RelV.both (by rw [h]; decide) fun hb => ⟨by rw [h2 hb, h], fun hh => absurd hh hp⟩
theorem Sub.val {l l' b : List Int} {α : Nat} (h : Sub l l' α b) {r r' : VR} (hr : RelV l l' α b r r') (h0 : r.2.2.2 = 0) (hp : r.2.1 < l.length) : r' = (r.1, α + r.2.1, r.2.2.1, 0) := by
  obtain ⟨p0, q1, q2, q3⟩ := hr.1 h0 (.inl hp)
  rw [q3, q2, (h.skip _ p0 (Nat.le_refl _) q1).1 (by rw [← q2]; exact hp)]
theorem Sub.tell {l l' b : List Int} {α : Nat} (h : Sub l l' α b) {left : Int} {v : J} {p p' : Nat × Int} (hok : p.2 = 0 → p' = (α + p.1, 0) ∧ p.1 ≤ l.length) (hbad : p.2 ≠ 0 → Blank b → WrongAs l α p.2 p'.2 p.1 p'.1) :
    RelV l l' α b (tellV l left v p) (tellV l' left v p') := by
  unfold tellV
  by_cases hp : p.2 ≠ 0
  · rw [if_pos hp]
    refine RelV.both hp fun hb => ?_
    obtain ⟨e1, e2⟩ := hbad hp hb
    rw [if_pos (by rw [e1]; exact hp)]
    exact ⟨e1, e2⟩
  · obtain ⟨e1, e2⟩ := hok (by omega)
    rw [if_neg hp, e1, if_neg (by simp)]
    exact ⟨fun _ _ => ⟨p.1, e2, rfl, rfl⟩, fun hh => absurd rfl hh⟩
theorem Sub.valF {l l' b : List Int} {α : Nat} (h : Sub l l' α b) (M M' : Nat → Int → VR) {i : Nat} {left : Int} (hi : i ≤ l.length) (hM : i < l.length → atL l i = 91 ∨ atL l i = 123 → ∀ left, RelV l l' α b (M i left) (M' (α + i) left)) :
    RelV l l' α b (valF l M i left) (valF l' M' (α + i) left) := by
  by_cases hlt : i < l.length
  case neg =>
    obtain rfl : i = l.length := by omega
    have e1 : Go.Proofs.YtblheibknpphkaaGreatDoor.valF l M l.length left = (zeroJ, l.length, left, 50) := by
      unfold Go.Proofs.YtblheibknpphkaaGreatDoor.valF; rw [if_pos (by rw [atL_past (Nat.le_refl _)]; decide)]
    rw [e1]
    refine RelV.ends rfl (Nat.lt_irrefl _) fun hb => ?_
    unfold Go.Proofs.YtblheibknpphkaaGreatDoor.valF
    rw [if_pos]
    rcases h.over hb with h3 | h3
    · rw [h3]; decide
    · have := isB_bd h3
      unfold beginsV
      simp; omega
  case pos =>
  have ha := h.at hlt
  unfold Go.Proofs.YtblheibknpphkaaGreatDoor.valF
  rw [ha]
  by_cases c1 : ¬ beginsV (atL l i) = true
  · rw [if_pos c1, if_pos c1]
    exact RelV.both (by show (50 : Int) ≠ 0; decide) fun _ => ⟨rfl, fun _ => rfl⟩
  rw [if_neg c1, if_neg c1]
  by_cases c2 : left - 1 < 0
  · rw [if_pos c2, if_pos c2]
    exact RelV.both (by show (53 : Int) ≠ 0; decide) fun _ => ⟨rfl, fun _ => rfl⟩
  rw [if_neg c2, if_neg c2]
  by_cases c3 : atL l i = 45 ∨ (48 ≤ atL l i ∧ atL l i ≤ 57)
  · rw [if_pos c3, if_pos c3, h.dr i hi]
    by_cases c4 : leadL (l.drop i) = 0
    · rw [if_pos c4]
      refine RelV.both (by show (50 : Int) ≠ 0; decide) fun hb => ?_
      rw [lead_blank hb, if_pos c4]
      exact ⟨rfl, fun _ => Nat.add_assoc _ _ _⟩
    · rw [if_neg c4]
      have hle := leadL_le (l.drop i)
      have same : leadL (l.drop i ++ b) = leadL (l.drop i) → (if leadL (l.drop i ++ b) = 0 then ((zeroJ, α + i + 1, left - 1, 50) : VR) else if fitL ((l.drop i ++ b).take (leadL (l.drop i ++ b))) (-9007199254740991) 9007199254740991 = true then (.mk 2 (numL ((l.drop i ++ b).take (leadL (l.drop i ++ b)))) ⟨#[]⟩ [] [], skipL l' (α + i + leadL (l.drop i ++ b)), left - 1, 0) else (zeroJ, α + i, left - 1, 41)) =
          if fitL ((l.drop i).take (leadL (l.drop i))) (-9007199254740991) 9007199254740991 = true then (.mk 2 (numL ((l.drop i).take (leadL (l.drop i)))) ⟨#[]⟩ [] [], skipL l' (α + (i + leadL (l.drop i))), left - 1, 0) else (zeroJ, α + i, left - 1, 41) := fun e => by
        rw [e, if_neg c4, List.take_append_of_le_length hle, Nat.add_assoc]
      by_cases c5 : fitL ((l.drop i).take (leadL (l.drop i))) (-9007199254740991) 9007199254740991 = true
      · rw [if_pos c5] at same ⊢
        have hn : i + leadL (l.drop i) ≤ l.length := by rw [List.length_drop] at hle; omega
        refine ⟨fun _ hc => ⟨i + leadL (l.drop i), hn, rfl, ?_⟩, fun hh => absurd rfl hh⟩
        refine same ?_
        rcases hc with hc | hc | hc
        · replace hc : skipL l (i + leadL (l.drop i)) < l.length := hc
          have := (skipL_ge hn).1
          exact lead_in c4 (by rw [List.length_drop]; omega)
        · exact absurd hc (by show ¬ (3 : Int) ≤ 2; decide)
        · exact lead_blank hc _
      · rw [if_neg c5] at same ⊢
        refine RelV.both (by show (41 : Int) ≠ 0; decide) fun hb => ?_
        rw [same (lead_blank hb _)]
        exact ⟨rfl, fun _ => rfl⟩
  rw [if_neg c3, if_neg c3]
  have word : ∀ (v : J) (x : List Int), (∀ c ∈ x, 33 ≤ c) → RelV l l' α b (tellV l (left - 1) v (wordL l i x)) (tellV l' (left - 1) v (wordL l' (α + i) x)) := fun v x hx =>
    h.tell (fun e => h.word_ok x i hi (fun c hc => by have := hx c hc; omega) e) (fun e hb => by
      obtain ⟨g1, g2, g3⟩ := h.word_bad hb x i hi hx e
      exact ⟨g2.trans g1.symm, g3⟩)
  by_cases c4 : atL l i = 110
  · rw [if_pos c4, if_pos c4]; exact word _ _ (by decide)
  rw [if_neg c4, if_neg c4]
  by_cases c5 : atL l i = 116
  · rw [if_pos c5, if_pos c5]; exact word _ _ (by decide)
  rw [if_neg c5, if_neg c5]
  by_cases c6 : atL l i = 102
  · rw [if_pos c6, if_pos c6]; exact word _ _ (by decide)
  rw [if_neg c6, if_neg c6]
  by_cases c7 : atL l i = 34
  · rw [if_pos c7, if_pos c7]
    by_cases hq : (quotedL l i).2.2 = 0
    · obtain ⟨q1, q2⟩ := h.quoted_ok hi hq
      rw [q1]
      exact h.tell (fun _ => ⟨rfl, q2⟩) (fun e => absurd hq e)
    · refine RelV.both (by unfold tellV; rw [if_pos hq]; exact hq) fun hb => ?_
      obtain ⟨q1, q2⟩ := h.quoted_bad hb hi hq
      unfold tellV
      rw [if_pos hq, if_pos (by rw [q1]; exact hq)]
      exact ⟨q1, q2⟩
  rw [if_neg c7, if_neg c7]
  have hc : atL l i = 91 ∨ atL l i = 123 := by
    have : beginsV (atL l i) = true := by simpa using c1
    unfold beginsV at this
    rw [decide_eq_true_eq] at this
    omega
  exact hM hlt hc (left - 1)
theorem valF_end {l : List Int} {M : Nat → Int → VR} {i : Nat} (hi : l.length ≤ i) (left : Int) : valF l M i left = (zeroJ, i, left, 50) := by
  unfold valF; rw [if_pos (by rw [atL_past hi]; decide)]
theorem quoted_end {l : List Int} {i : Nat} (hi : l.length ≤ i) : quotedL l i = ([], i, 50) := by
  unfold quotedL; rw [if_pos (by rw [atL_past hi]; decide)]
theorem itemL_end {l : List Int} {val : Nat → Int → VR} {obj : Bool} {go : Nat → Int → List ByteArray → List J → VR} {i : Nat} {left : Int} {t : ByteArray} {ks : List ByteArray} {vs : List J} (hv : (val i left).2.2.2 = 50) (hp : l.length ≤ (val i left).2.1) :
    (itemL l val obj go i left t ks vs).2.2.2 = 50 ∧ l.length ≤ (itemL l val obj go i left t ks vs).2.1 := by
  unfold itemL
  rw [if_pos (by rw [hv]; decide)]
  exact ⟨hv, hp⟩
theorem membL_end {l : List Int} {val : Nat → Int → VR} {obj : Bool} {go : Nat → Int → List ByteArray → List J → VR} {i : Nat} {left : Int} {ks : List ByteArray} {vs : List J} (hi : l.length ≤ i) (hv : (val i left).2.2.2 = 50) (hp : l.length ≤ (val i left).2.1) :
    (membL l val obj go i left ks vs).2.2.2 = 50 ∧ l.length ≤ (membL l val obj go i left ks vs).2.1 := by
  unfold membL
  cases obj
  · exact itemL_end hv hp
  · rw [if_pos rfl, quoted_end hi, if_pos (by simp)]
    exact ⟨rfl, hi⟩
theorem manyGo_end {l : List Int} {val : Nat → Int → VR} {obj : Bool} (hv : ∀ i left, l.length ≤ i → (val i left).2.2.2 = 50 ∧ l.length ≤ (val i left).2.1) {f : Nat} {first : Bool} {i : Nat} {left : Int} {ks : List ByteArray} {vs : List J} (hi : l.length ≤ i) :
    (manyGo l val obj f first i left ks vs).2.2.2 = 50 ∧ l.length ≤ (manyGo l val obj f first i left ks vs).2.1 := by
  cases f with
  | zero => exact ⟨rfl, hi⟩
  | succ f =>
    rw [manyGo, if_neg (by rw [atL_past hi]; cases obj <;> decide)]
    cases first
    · rw [if_neg (by simp), if_pos (by rw [atL_past hi]; decide)]; exact ⟨rfl, hi⟩
    · rw [if_pos rfl]; exact membL_end hi (hv i left hi).1 (hv i left hi).2
theorem Sub.item {l l' b : List Int} {α : Nat} (h : Sub l l' α b) {val val' : Nat → Int → VR} (hv : ∀ j left, j < l.length → RelV l l' α b (val j left) (val' (α + j) left)) (hve : ∀ i left, l.length ≤ i → (val i left).2.2.2 = 50 ∧ l.length ≤ (val i left).2.1) (hve' : ∀ i left, l'.length ≤ i → (val' i left).2.2.2 = 50 ∧ l'.length ≤ (val' i left).2.1)
    (hmv : ∀ j left, j ≤ l.length → Moves l j left (val j left)) {obj : Bool} {go go' : Nat → Int → List ByteArray → List J → VR} {y y' : Nat} (hgo : ∀ p p' left ks vs, y < p → PosR l l' α b p p' → RelV l l' α b (go p left ks vs) (go' p' left ks vs)) (hy : PosR l l' α b y y') (left : Int) (t : ByteArray) (ks : List ByteArray) (vs : List J) :
    RelV l l' α b (itemL l val obj go y left t ks vs) (itemL l' val' obj go' y' left t ks vs) := by
  by_cases hlt : y < l.length
  case neg =>
    have e : y = l.length := by have := hy.1; omega
    obtain ⟨g1, g2⟩ := itemL_end (obj := obj) (go := go) (t := t) (ks := ks) (vs := vs) (hve y left (by omega)).1 (hve y left (by omega)).2
    refine RelV.ends g1 (by omega) fun hb => ?_
    have e' := hy.2.2 e hb
    exact (itemL_end (hve' y' left (by omega)).1 (hve' y' left (by omega)).2).1
  case pos =>
  obtain rfl := hy.2.1 hlt
  have hr := hv y left hlt
  unfold itemL
  by_cases he : (val y left).2.2.2 ≠ 0
  · rw [if_pos he]
    refine RelV.both he fun hb => ?_
    obtain ⟨e1, e2⟩ := hr.2 he hb
    rw [if_pos (by rw [e1]; exact he)]
    exact ⟨e1, e2⟩
  · have h0 : (val y left).2.2.2 = 0 := by omega
    rw [if_neg he]
    obtain ⟨m1, m2, _, _⟩ := hmv y left (by omega) h0
    by_cases hc : atL l (val y left).2.1 ≠ 44 ∧ atL l (val y left).2.1 ≠ (if obj = true then 125 else 93)
    · rw [if_pos hc]
      refine RelV.both (by show (50 : Int) ≠ 0; decide) fun hb => ?_
      obtain ⟨p0, q1, q2, q3⟩ := hr.1 h0 (.inr (.inr hb))
      have hps := h.pos_skip q1
      rw [← q2] at hps
      rw [q3, if_neg (show ¬ ((val y left).1, skipL l' (α + p0), (val y left).2.2.1, (0 : Int)).2.2.2 ≠ 0 from fun h => h rfl)]
      have hc' : atL l' (skipL l' (α + p0)) ≠ 44 ∧ atL l' (skipL l' (α + p0)) ≠ (if obj = true then 125 else 93) := by
        by_cases hp : (val y left).2.1 < l.length
        · rw [hps.2.1 hp, h.at hp]; exact hc
        · rw [hps.2.2 (by omega) hb, atL_past (Nat.le_refl _)]
          cases obj <;> decide
      rw [if_pos hc']
      exact ⟨rfl, fun hp => hps.2.1 hp⟩
    · rw [if_neg hc]
      have hp : (val y left).2.1 < l.length := atL_lt (fun e => hc (by rw [e]; cases obj <;> decide))
      rw [h.val hr h0 hp, if_neg (show ¬ ((val y left).1, α + (val y left).2.1, (val y left).2.2.1, (0 : Int)).2.2.2 ≠ 0 from fun h => h rfl)]
      simp only []
      rw [h.at hp, if_neg hc]
      have hpr : PosR l l' α b (val y left).2.1 (α + (val y left).2.1) := ⟨m2, fun _ => rfl, fun e => absurd e (by omega)⟩
      cases obj
      · exact hgo _ _ _ _ _ m1 hpr
      · exact hgo _ _ _ _ _ m1 hpr
theorem Sub.memb {l l' b : List Int} {α : Nat} (h : Sub l l' α b) {val val' : Nat → Int → VR} (hv : ∀ j left, j < l.length → RelV l l' α b (val j left) (val' (α + j) left)) (hve : ∀ i left, l.length ≤ i → (val i left).2.2.2 = 50 ∧ l.length ≤ (val i left).2.1) (hve' : ∀ i left, l'.length ≤ i → (val' i left).2.2.2 = 50 ∧ l'.length ≤ (val' i left).2.1)
    (hmv : ∀ j left, j ≤ l.length → Moves l j left (val j left)) {obj : Bool} {go go' : Nat → Int → List ByteArray → List J → VR} {y y' : Nat} (hgo : ∀ p p' left ks vs, y < p → PosR l l' α b p p' → RelV l l' α b (go p left ks vs) (go' p' left ks vs)) (hy : PosR l l' α b y y') (left : Int) (ks : List ByteArray) (vs : List J) :
    RelV l l' α b (membL l val obj go y left ks vs) (membL l' val' obj go' y' left ks vs) := by
  cases obj
  · exact h.item hv hve hve' hmv hgo hy left ⟨#[]⟩ ks vs
  by_cases hlt : y < l.length
  case neg =>
    have e : y = l.length := by have := hy.1; omega
    obtain ⟨g1, g2⟩ := membL_end (obj := true) (go := go) (ks := ks) (vs := vs) (show l.length ≤ y by omega) (hve y left (by omega)).1 (hve y left (by omega)).2
    refine RelV.ends g1 (by omega) fun hb => ?_
    have e' := hy.2.2 e hb
    exact (membL_end (show l'.length ≤ y' by omega) (hve' y' left (by omega)).1 (hve' y' left (by omega)).2).1
  case pos =>
  obtain rfl := hy.2.1 hlt
  unfold membL
  rw [if_pos rfl, if_pos rfl]
  by_cases hq : (quotedL l y).2.2 ≠ 0
  · rw [if_pos hq]
    refine RelV.both hq fun hb => ?_
    obtain ⟨q1, q2⟩ := h.quoted_bad hb (by omega) hq
    rw [if_pos (by rw [q1]; exact hq)]
    exact ⟨q1, q2⟩
  obtain ⟨q1, q2⟩ := h.quoted_ok (i := y) (by omega) (by omega)
  have hgt := quotedL_gt l y (by omega)
  rw [if_neg hq, q1, if_neg (show ¬ ((quotedL l y).1, α + (quotedL l y).2.1, (0 : Int)).2.2 ≠ 0 from fun h => h rfl)]
  simp only []
  by_cases hk : hasK ks (toS (quotedL l y).1) = true
  · rw [if_pos hk, if_pos hk]
    exact RelV.both (by show (52 : Int) ≠ 0; decide) fun _ => ⟨rfl, fun _ => rfl⟩
  rw [if_neg hk, if_neg hk]
  have hps := h.pos_skip q2
  have hge := skipL_ge q2
  by_cases h58 : atL l (skipL l (quotedL l y).2.1) ≠ 58
  · rw [if_pos h58]
    refine RelV.both (by show (50 : Int) ≠ 0; decide) fun hb => ?_
    have g : atL l' (skipL l' (α + (quotedL l y).2.1)) ≠ 58 := by
      by_cases hp : skipL l (quotedL l y).2.1 < l.length
      · rw [hps.2.1 hp, h.at hp]; exact h58
      · rw [hps.2.2 (by omega) hb, atL_past (Nat.le_refl _)]; decide
    rw [if_pos g]
    exact ⟨rfl, fun hp => hps.2.1 hp⟩
  · have hp : skipL l (quotedL l y).2.1 < l.length := atL_lt (by omega)
    rw [if_neg h58, hps.2.1 hp, h.at hp, if_neg h58, Nat.add_assoc]
    have hps2 := h.pos_skip (x := skipL l (quotedL l y).2.1 + 1) (by omega)
    have hge2 := skipL_ge (l := l) (i := skipL l (quotedL l y).2.1 + 1) (by omega)
    exact h.item hv hve hve' hmv (fun p p' left ks vs hlt2 hpp => hgo p p' left ks vs (by omega) hpp) hps2 left _ ks vs
theorem Sub.many {l l' b : List Int} {α : Nat} (h : Sub l l' α b) {val val' : Nat → Int → VR} (hv : ∀ j left, j < l.length → RelV l l' α b (val j left) (val' (α + j) left)) (hve : ∀ i left, l.length ≤ i → (val i left).2.2.2 = 50 ∧ l.length ≤ (val i left).2.1) (hve' : ∀ i left, l'.length ≤ i → (val' i left).2.2.2 = 50 ∧ l'.length ≤ (val' i left).2.1)
    (hmv : ∀ j left, j ≤ l.length → Moves l j left (val j left)) (obj : Bool) : ∀ (f f' : Nat) (first : Bool) (i i' : Nat) (left : Int) (ks : List ByteArray) (vs : List J), l.length - i < f → l'.length - i' < f' → PosR l l' α b i i' →
    RelV l l' α b (manyGo l val obj f first i left ks vs) (manyGo l' val' obj f' first i' left ks vs)
  | 0, _, _, _, _, _, _, _, hf, _, _ => absurd hf (Nat.not_lt_zero _)
  | _, 0, _, _, _, _, _, _, _, hf, _ => absurd hf (Nat.not_lt_zero _)
  | f + 1, f' + 1, first, i, i', left, ks, vs, hf, hf', hp => by
    have hle := h.le
    by_cases hlt : i < l.length
    case neg =>
      have e : i = l.length := by have := hp.1; omega
      obtain ⟨g1, g2⟩ := manyGo_end (obj := obj) (f := f + 1) (first := first) (left := left) (ks := ks) (vs := vs) hve (show l.length ≤ i by omega)
      refine RelV.ends g1 (by omega) fun hb => ?_
      have e' := hp.2.2 e hb
      exact (manyGo_end hve' (show l'.length ≤ i' by omega)).1
    case pos =>
    obtain rfl := hp.2.1 hlt
    have ha := h.at hlt
    have hgo : ∀ (y p p' : Nat) (left : Int) (ks : List ByteArray) (vs : List J), i ≤ y → y < p → PosR l l' α b p p' → RelV l l' α b (manyGo l val obj f false p left ks vs) (manyGo l' val' obj f' false p' left ks vs) := fun y p p' left ks vs h1 h2 hpp => by
      by_cases hlp : p < l.length
      · have e := hpp.2.1 hlp
        exact h.many hv hve hve' hmv obj f f' false p p' left ks vs (by omega) (by omega) hpp
      · have e : p = l.length := by have := hpp.1; omega
        obtain ⟨g1, g2⟩ := manyGo_end (obj := obj) (f := f) (first := false) (left := left) (ks := ks) (vs := vs) hve (show l.length ≤ p by omega)
        refine RelV.ends g1 (by omega) fun hb => ?_
        have e' := hpp.2.2 e hb
        exact (manyGo_end hve' (show l'.length ≤ p' by omega)).1
    rw [manyGo, manyGo, ha]
    by_cases he : atL l i = (if obj = true then 125 else 93)
    · rw [if_pos he, if_pos he]
      exact ⟨fun _ _ => ⟨i + 1, by omega, rfl, by rw [Nat.add_assoc]⟩, fun hh => absurd rfl hh⟩
    rw [if_neg he, if_neg he]
    cases first
    · rw [if_neg (show ¬ (false = true) by simp), if_neg (show ¬ (false = true) by simp)]
      by_cases h44 : atL l i ≠ 44
      · rw [if_pos h44, if_pos h44]
        exact RelV.both (by show (50 : Int) ≠ 0; decide) fun _ => ⟨rfl, fun _ => rfl⟩
      · rw [if_neg h44, if_neg h44, Nat.add_assoc]
        have hge := skipL_ge (l := l) (i := i + 1) (by omega)
        exact h.memb hv hve hve' hmv (fun p p' left ks vs h2 hpp => hgo _ p p' left ks vs (by omega) h2 hpp) (h.pos_skip (by omega)) left ks vs
    · rw [if_pos rfl, if_pos rfl]
      exact h.memb hv hve hve' hmv (fun p p' left ks vs h2 hpp => hgo _ p p' left ks vs (Nat.le_refl _) h2 hpp) hp left ks vs
theorem valueL_end (l : List Int) (d i : Nat) (left : Int) (hi : l.length ≤ i) : valueL l d i left = (zeroJ, i, left, 50) := by
  cases d with
  | zero => rw [valueL]; exact valF_end hi left
  | succ d => rw [valueL]; exact valF_end hi left
/-- What is read of a value stays, where it ends by itself; blanks behind it count for nothing. -/
theorem Sub.value {l l' b : List Int} {α : Nat} (h : Sub l l' α b) : ∀ (d i : Nat) (left : Int), i ≤ l.length → RelV l l' α b (valueL l d i left) (valueL l' d (α + i) left)
  | 0, i, left, hi => by
    rw [valueL, valueL]
    exact h.valF _ _ hi fun _ _ left => RelV.both (by show (51 : Int) ≠ 0; decide) fun _ => ⟨rfl, fun _ => rfl⟩
  | d + 1, i, left, hi => by
    rw [valueL, valueL]
    refine h.valF _ _ hi fun hlt _ left => ?_
    unfold manyL
    rw [h.at hlt, Nat.add_assoc]
    have hge := skipL_ge (l := l) (i := i + 1) (by omega)
    exact h.many (fun j left hj => h.value d j left (by omega)) (fun i left hi => by rw [valueL_end l d i left hi]; exact ⟨rfl, hi⟩) (fun i left hi => by rw [valueL_end l' d i left hi]; exact ⟨rfl, hi⟩) (fun j left hj => valueL_moves l d j left hj)
      _ _ _ true _ _ left [] [] (by omega) (by omega) (h.pos_skip (by omega))
end Go.Proofs.YtblheibknpphkaaGreatDoor
namespace Go.Proofs.YtblheibknpphkaaGreatDoor
open Go
theorem skip_front {l : List Int} : ∀ (n k : Nat), k ≤ n → (∀ j, j < k → isB (atL l j) = true) → skipL l 0 = skipL l k
  | _, 0, _, _ => rfl
  | 0, k + 1, h, _ => absurd h (by omega)
  | n + 1, k + 1, h, hb => by
    rw [skip_front n k (by omega) (fun j hj => hb j (by omega)), skipL_blank (hb k (by omega))]
theorem parsed_blanks (a l b : List Int) (ha : Blank a) (hb : Blank b) (hl : (a ++ l ++ b).length ≤ 4096) :
    (parsedL (a ++ l ++ b)).1 = (parsedL l).1 ∧ (parsedL (a ++ l ++ b)).2.1 = (parsedL l).2.1 ∧ ((parsedL l).2.1 ≠ 0 → (parsedL l).2.2 < (l.length : Int) → (parsedL (a ++ l ++ b)).2.2 = (parsedL l).2.2 + a.length) := by
  have h := Sub.mk' a l b
  obtain ⟨l', hl'⟩ : ∃ l', l' = a ++ l ++ b := ⟨_, rfl⟩
  rw [← hl'] at h hl ⊢
  have hlen : l'.length = a.length + l.length + b.length := by rw [hl']; simp; omega
  have hfront : skipL l' 0 = skipL l' (a.length + 0) := by
    rw [Nat.add_zero]
    refine skip_front _ _ (Nat.le_refl _) fun j hj => ?_
    have e : atL l' j = a[j] := by
      rw [hl', List.append_assoc]
      unfold atL
      rw [List.getD_eq_getElem?_getD, List.getElem?_append_left hj, List.getElem?_eq_getElem hj]; rfl
    rw [e]
    exact ha _ (List.getElem_mem hj)
  rw [parsedL_is, parsedL_is]
  unfold parseL
  rw [if_neg (show ¬ 4096 < l'.length by omega), if_neg (show ¬ 4096 < l.length by omega), hfront]
  have hps := h.pos_skip (x := 0) (Nat.zero_le _)
  obtain ⟨i, hi⟩ : ∃ i, i = skipL l 0 := ⟨_, rfl⟩
  obtain ⟨i', hi'⟩ : ∃ i', i' = skipL l' (a.length + 0) := ⟨_, rfl⟩
  rw [← hi, ← hi'] at hps ⊢
  by_cases hlt : i < l.length
  case neg =>
    have e : i = l.length := by have := hps.1; omega
    have e' := hps.2.2 e hb
    rw [valueL_end l 8 i 256 (by omega), valueL_end l' 8 i' 256 (by omega), if_pos (show ((zeroJ, i', (256 : Int), (50 : Int)) : VR).2.2.2 ≠ 0 by show (50 : Int) ≠ 0; decide), if_pos (show ((zeroJ, i, (256 : Int), (50 : Int)) : VR).2.2.2 ≠ 0 by show (50 : Int) ≠ 0; decide)]
    refine ⟨rfl, rfl, fun _ hh => ?_⟩
    exfalso
    replace hh : (i : Int) < (l.length : Int) := hh
    omega
  case pos =>
  have e' := hps.2.1 hlt
  have hr := h.value 8 i 256 hps.1
  rw [← e'] at hr
  by_cases he : (valueL l 8 i 256).2.2.2 ≠ 0
  · obtain ⟨w1, w2⟩ := hr.2 he hb
    rw [if_pos he, if_pos (show (valueL l' 8 i' 256).2.2.2 ≠ 0 by rw [w1]; exact he)]
    refine ⟨rfl, w1, fun _ hh => ?_⟩
    replace hh : ((valueL l 8 i 256).2.1 : Int) < (l.length : Int) := hh
    have := w2 (by omega)
    show ((valueL l' 8 i' 256).2.1 : Int) = ((valueL l 8 i 256).2.1 : Int) + (a.length : Int)
    omega
  · rw [if_neg he]
    obtain ⟨p0, q1, q2, q3⟩ := hr.1 (by omega) (.inr (.inr hb))
    have hpp := h.pos_skip q1
    rw [← q2] at hpp
    rw [q3, if_neg (show ¬ ((valueL l 8 i 256).1, skipL l' (a.length + p0), (valueL l 8 i 256).2.2.1, (0 : Int)).2.2.2 ≠ 0 from fun h => h rfl)]
    by_cases hp : (valueL l 8 i 256).2.1 < l.length
    · have e2 := hpp.2.1 hp
      rw [if_pos hp, if_pos (show ((valueL l 8 i 256).1, skipL l' (a.length + p0), (valueL l 8 i 256).2.2.1, (0 : Int)).2.1 < l'.length by show skipL l' (a.length + p0) < l'.length; omega)]
      refine ⟨rfl, rfl, fun _ _ => ?_⟩
      show ((skipL l' (a.length + p0) : Nat) : Int) = ((valueL l 8 i 256).2.1 : Int) + (a.length : Int)
      omega
    · have e2 := hpp.2.2 (by have := hpp.1; omega) hb
      rw [if_neg hp, if_neg (show ¬ ((valueL l 8 i 256).1, skipL l' (a.length + p0), (valueL l 8 i 256).2.2.1, (0 : Int)).2.1 < l'.length by show ¬ skipL l' (a.length + p0) < l'.length; omega)]
      exact ⟨rfl, rfl, fun hh => absurd rfl hh⟩
theorem parsed_front (q : List Int) (c : Int) (r : List Int) (hc : isB c = false) (hl : (q ++ c :: r).length ≤ 4096) (h0 : (parsedL q).2.1 = 0) (hk : 3 ≤ (parsedL q).1.kind) : (parsedL (q ++ c :: r)).2.1 ≠ 0 := by
  have h : Sub q (q ++ c :: r) 0 (c :: r) := Sub.mk' [] q (c :: r)
  obtain ⟨l', hl'⟩ : ∃ l', l' = q ++ c :: r := ⟨_, rfl⟩
  rw [← hl'] at h hl ⊢
  have hlen : l'.length = q.length + (r.length + 1) := by rw [hl']; simp
  rw [parsedL_is] at h0 hk ⊢
  unfold parseL at h0 hk ⊢
  rw [if_neg (by omega)] at h0 hk
  rw [if_neg (by omega)]
  have hps := h.pos_skip (x := 0) (Nat.zero_le _)
  rw [Nat.zero_add] at hps
  have hmv := valueL_moves q 8 (skipL q 0) 256 hps.1
  have hend := valueL_end q 8 (skipL q 0) 256
  have hrel := h.value 8 (skipL q 0) 256 hps.1
  by_cases he : (valueL q 8 (skipL q 0) 256).2.2.2 ≠ 0
  · rw [if_pos he] at h0; exact absurd h0 he
  rw [if_neg he] at h0 hk
  by_cases hp : (valueL q 8 (skipL q 0) 256).2.1 < q.length
  · rw [if_pos hp] at h0; exact absurd (show (50 : Int) = 0 from h0) (by decide)
  rw [if_neg hp] at hk
  have hlt : skipL q 0 < q.length := Decidable.byContradiction fun hn => by
    rw [hend (by omega)] at he
    exact he (by show (50 : Int) ≠ 0; decide)
  obtain ⟨p0, q1, q2, q3⟩ := hrel.1 (by omega) (.inr (.inl hk))
  have e1 := hps.2.1 hlt
  have hat : atL l' (0 + q.length) = c := by
    have := h.past 0
    rw [Nat.add_zero] at this
    rw [this]; rfl
  have hsk : skipL l' (0 + p0) = q.length := by
    rw [(h.skip _ p0 (Nat.le_refl _) q1).2 (by rw [← q2]; exact hp), skipL_stop (by rw [hat, hc]; simp), Nat.zero_add]
  rw [e1, q3, if_neg (show ¬ ((valueL q 8 (skipL q 0) 256).1, skipL l' (0 + p0), (valueL q 8 (skipL q 0) 256).2.2.1, (0 : Int)).2.2.2 ≠ 0 from fun h => h rfl)]
  rw [if_pos (by show skipL l' (0 + p0) < l'.length; omega)]
  show (50 : Int) ≠ 0
  decide
end Go.Proofs.YtblheibknpphkaaGreatDoor
