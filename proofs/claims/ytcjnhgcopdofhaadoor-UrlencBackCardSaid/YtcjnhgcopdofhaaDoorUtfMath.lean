/- The plain mathematics of UTF-8: a letter's bytes, the letter at the beginning of a list of bytes. -/
import Derived.Test.YtcjnhgcopdofhaaDoorKit3
namespace Go.Proofs.YtcjnhgcopdofhaaDoor
open Go Go.RowKit

/-- Is it none? -/
def noL (n : Int) : Bool := decide (n < 0 ∨ 1114111 < n ∨ (55296 ≤ n ∧ n ≤ 57343))
/-- A letter's bytes; of what is none: []. -/
def putL (n : Int) : List Int :=
  if n < 0 ∨ 1114111 < n ∨ (55296 ≤ n ∧ n ≤ 57343) then [] else if n < 128 then [n] else if n < 2048 then [192 + n / 64, 128 + n % 64]
  else if n < 65536 then [224 + n / 4096, 128 + n / 64 % 64, 128 + n % 64] else [240 + n / 262144, 128 + n / 4096 % 64, 128 + n / 64 % 64, 128 + n % 64]
/-- How many bytes by the first. -/
def wantL (c : Int) : Nat := if 240 ≤ c then 4 else if 224 ≤ c then 3 else if 192 ≤ c then 2 else 1
def markL (k : Nat) : Int := if k = 4 then 240 else if k = 3 then 224 else if k = 2 then 192 else 0
def accL (c0 : Int) (l : List Int) : Nat → Int
  | 0 => c0
  | i + 1 => accL c0 l i * 64 + l.getD (i + 1) 0 % 64
/-- The letter that the bytes by the first would be. -/
def candL (l : List Int) : Int := accL (l.getD 0 0 - markL (wantL (l.getD 0 0))) l (wantL (l.getD 0 0) - 1)
/-- The letter whose bytes l begins with, and how many they are. -/
def nxL (l : List Int) : Int × Nat :=
  if l.length = 0 then (-1, 0) else if l.length < wantL (l.getD 0 0) then (-1, 1)
  else if putL (candL l) = l.take (wantL (l.getD 0 0)) then (candL l, wantL (l.getD 0 0)) else (-1, 1)

theorem wantL_bd (c : Int) : 1 ≤ wantL c ∧ wantL c ≤ 4 := by unfold wantL; split <;> (try split) <;> (try split) <;> omega
theorem putL_none {n : Int} (h : n < 0 ∨ 1114111 < n ∨ (55296 ≤ n ∧ n ≤ 57343)) : putL n = [] := if_pos h
theorem putL_one {n : Int} (h : 0 ≤ n) (h1 : n < 128) : putL n = [n] := by unfold putL; rw [if_neg (by omega), if_pos h1]
theorem putL_two {n : Int} (h : 128 ≤ n) (h1 : n < 2048) : putL n = [192 + n / 64, 128 + n % 64] := by unfold putL; rw [if_neg (by omega), if_neg (by omega), if_pos h1]
theorem putL_three {n : Int} (h : 2048 ≤ n) (h1 : n < 65536) (h2 : n < 55296 ∨ 57343 < n) : putL n = [224 + n / 4096, 128 + n / 64 % 64, 128 + n % 64] := by unfold putL; rw [if_neg (by omega), if_neg (by omega), if_neg (by omega), if_pos h1]
theorem putL_four {n : Int} (h : 65536 ≤ n) (h1 : n ≤ 1114111) : putL n = [240 + n / 262144, 128 + n / 4096 % 64, 128 + n / 64 % 64, 128 + n % 64] := by unfold putL; rw [if_neg (by omega), if_neg (by omega), if_neg (by omega), if_neg (by omega)]
/-- The five cases. -/
theorem putL_cases (n : Int) : (putL n = [] ∧ (n < 0 ∨ 1114111 < n ∨ (55296 ≤ n ∧ n ≤ 57343))) ∨ (0 ≤ n ∧ n < 128 ∧ putL n = [n]) ∨ (128 ≤ n ∧ n < 2048 ∧ putL n = [192 + n / 64, 128 + n % 64])
    ∨ (2048 ≤ n ∧ n < 65536 ∧ (n < 55296 ∨ 57343 < n) ∧ putL n = [224 + n / 4096, 128 + n / 64 % 64, 128 + n % 64]) ∨ (65536 ≤ n ∧ n ≤ 1114111 ∧ putL n = [240 + n / 262144, 128 + n / 4096 % 64, 128 + n / 64 % 64, 128 + n % 64]) := by
  by_cases h0 : n < 0 ∨ 1114111 < n ∨ (55296 ≤ n ∧ n ≤ 57343)
  · exact .inl ⟨putL_none h0, h0⟩
  · by_cases h1 : n < 128
    · exact .inr (.inl ⟨by omega, h1, putL_one (by omega) h1⟩)
    · by_cases h2 : n < 2048
      · exact .inr (.inr (.inl ⟨by omega, h2, putL_two (by omega) h2⟩))
      · by_cases h3 : n < 65536
        · exact .inr (.inr (.inr (.inl ⟨by omega, h3, by omega, putL_three (by omega) h3 (by omega)⟩)))
        · exact .inr (.inr (.inr (.inr ⟨by omega, by omega, putL_four (by omega) (by omega)⟩)))
theorem putL_len (n : Int) : (putL n).length ≤ 4 := by
  rcases putL_cases n with ⟨h, _⟩ | ⟨_, _, h⟩ | ⟨_, _, h⟩ | ⟨_, _, _, h⟩ | ⟨_, _, h⟩ <;> rw [h] <;> simp
theorem putL_bytes (n : Int) : Bytes (putL n) := .of_mem fun x hx => by
  rcases putL_cases n with ⟨h, _⟩ | ⟨_, _, h⟩ | ⟨_, _, h⟩ | ⟨_, _, _, h⟩ | ⟨_, _, h⟩ <;> rw [h] at hx <;> simp at hx <;> omega
theorem putL_nil {n : Int} (h : putL n = []) : n < 0 ∨ 1114111 < n ∨ (55296 ≤ n ∧ n ≤ 57343) := by
  rcases putL_cases n with ⟨_, h'⟩ | ⟨_, _, h'⟩ | ⟨_, _, h'⟩ | ⟨_, _, _, h'⟩ | ⟨_, _, h'⟩
  · exact h'
  all_goals rw [h'] at h; cases h
theorem putL_neg1 : putL (-1) = [] := rfl
/-- The first byte tells how many. -/
theorem putL_want {n c : Int} {r : List Int} (h : putL n = c :: r) : wantL c = (putL n).length ∧ c - markL (wantL c) = c % (if wantL c = 1 then 256 else if wantL c = 2 then 32 else if wantL c = 3 then 16 else 8) := by
  rcases putL_cases n with ⟨h', _⟩ | ⟨_, _, h'⟩ | ⟨_, _, h'⟩ | ⟨_, _, _, h'⟩ | ⟨_, _, h'⟩ <;> rw [h'] at h
  · cases h
  all_goals
    obtain ⟨h1, h2⟩ := List.cons.inj h
    rw [h']
  · have : wantL c = 1 := by unfold wantL; rw [if_neg (by omega), if_neg (by omega), if_neg (by omega)]
    rw [this]; refine ⟨rfl, ?_⟩; show c - 0 = c % 256; omega
  · have : wantL c = 2 := by unfold wantL; rw [if_neg (by omega), if_neg (by omega), if_pos (by omega)]
    rw [this]; refine ⟨rfl, ?_⟩; show c - 192 = c % 32; omega
  · have : wantL c = 3 := by unfold wantL; rw [if_neg (by omega), if_pos (by omega)]
    rw [this]; refine ⟨rfl, ?_⟩; show c - 224 = c % 16; omega
  · have : wantL c = 4 := by unfold wantL; rw [if_pos (by omega)]
    rw [this]; refine ⟨rfl, ?_⟩; show c - 240 = c % 8; omega
/-- A letter's bytes, whatever stands behind them, tell it. -/
theorem cand_put {n : Int} (h : putL n ≠ []) (s : List Int) : candL (putL n ++ s) = n := by
  rcases putL_cases n with ⟨h', _⟩ | ⟨_, _, h'⟩ | ⟨_, _, h'⟩ | ⟨_, _, _, h'⟩ | ⟨_, _, h'⟩
  · exact absurd h' h
  all_goals
    have hw := (putL_want h').1
    rw [h'] at hw
    simp only [List.length_cons, List.length_nil, Nat.zero_add, Nat.reduceAdd] at hw
    rw [h']
    simp only [candL, List.cons_append, List.nil_append, List.getD_cons_zero, hw, markL, Nat.reduceSub, accL, List.getD_cons_succ]
    simp
    try omega
theorem nx_put {n : Int} (h : putL n ≠ []) (s : List Int) : nxL (putL n ++ s) = (n, (putL n).length) := by
  obtain ⟨c, r, hc⟩ := List.exists_cons_of_ne_nil h
  have hw := (putL_want hc).1
  have h0 : (putL n ++ s).getD 0 0 = c := by rw [hc]; rfl
  have hl : (putL n).length ≠ 0 := by simpa using h
  unfold nxL
  rw [h0, if_neg (by rw [List.length_append]; omega), if_neg (by rw [List.length_append, hw]; omega), cand_put h, hw, if_pos (by simp)]
theorem nx_of_take {l : List Int} {n : Int} (h : putL n ≠ []) (ht : putL n = l.take (putL n).length) : nxL l = (n, (putL n).length) := by
  have := nx_put h (l.drop (putL n).length)
  have e : putL n ++ l.drop (putL n).length = l := by
    have h2 := List.take_append_drop (putL n).length l
    rw [← ht] at h2
    exact h2
  rwa [e] at this
/-- What nxL tells. -/
theorem nx_cases (l : List Int) : (nxL l = (-1, 0) ∧ l = []) ∨ (nxL l = (-1, 1) ∧ l ≠ []) ∨
    (nxL l = (candL l, wantL (l.getD 0 0)) ∧ wantL (l.getD 0 0) ≤ l.length ∧ putL (candL l) = l.take (wantL (l.getD 0 0)) ∧ (putL (candL l)).length = wantL (l.getD 0 0) ∧ 0 ≤ candL l) := by
  by_cases h0 : l.length = 0
  · exact .inl ⟨by unfold nxL; rw [if_pos h0], List.eq_nil_of_length_eq_zero h0⟩
  · have hne : l ≠ [] := fun e => h0 (by rw [e]; rfl)
    by_cases h1 : l.length < wantL (l.getD 0 0)
    · exact .inr (.inl ⟨by unfold nxL; rw [if_neg h0, if_pos h1], hne⟩)
    · by_cases h2 : putL (candL l) = l.take (wantL (l.getD 0 0))
      · have hl : (putL (candL l)).length = wantL (l.getD 0 0) := by rw [h2, List.length_take]; omega
        refine .inr (.inr ⟨by unfold nxL; rw [if_neg h0, if_neg h1, if_pos h2], by omega, h2, hl, ?_⟩)
        rcases Int.lt_or_le (candL l) 0 with hn | hn
        · rw [putL_none (.inl hn), List.length_nil] at hl
          have := wantL_bd (l.getD 0 0)
          omega
        · exact hn
      · exact .inr (.inl ⟨by unfold nxL; rw [if_neg h0, if_neg h1, if_neg h2], hne⟩)
theorem nx_bd (l : List Int) : -1 ≤ (nxL l).1 ∧ (nxL l).1 ≤ 1114111 ∧ (nxL l).2 ≤ 4 ∧ (nxL l).2 ≤ l.length := by
  rcases nx_cases l with ⟨h, e⟩ | ⟨h, e⟩ | ⟨h, h1, h2, h3, h4⟩
  · rw [h]; simp
  · rw [h]
    have : l.length ≠ 0 := fun h => e (List.eq_nil_of_length_eq_zero h)
    refine ⟨?_, ?_, ?_, ?_⟩ <;> simp <;> omega
  · rw [h]
    have hw := wantL_bd (l.getD 0 0)
    refine ⟨by show -1 ≤ candL l; omega, ?_, hw.2, h1⟩
    show candL l ≤ 1114111
    rcases Int.lt_or_le 1114111 (candL l) with hn | hn
    · rw [putL_none (.inr (.inl hn)), List.length_nil] at h3
      omega
    · exact hn
/-- A letter was found. -/
theorem nx_found {l : List Int} (h : (nxL l).1 ≠ -1) : putL (nxL l).1 = l.take (nxL l).2 ∧ (putL (nxL l).1).length = (nxL l).2 ∧ 1 ≤ (nxL l).2 ∧ (nxL l).2 ≤ l.length ∧ (nxL l).2 ≤ 4 ∧ 0 ≤ (nxL l).1 ∧ putL (nxL l).1 ≠ [] := by
  rcases nx_cases l with ⟨e, _⟩ | ⟨e, _⟩ | ⟨e, h1, h2, h3, h4⟩
  · rw [e] at h; exact absurd rfl h
  · rw [e] at h; exact absurd rfl h
  · have hw := wantL_bd (l.getD 0 0)
    rw [e]
    refine ⟨h2, h3, hw.1, h1, hw.2, h4, fun hn => ?_⟩
    simp only at hn
    rw [hn, List.length_nil] at h3
    omega
theorem accL_take (c0 : Int) (l : List Int) (j : Nat) : ∀ i, i < j → accL c0 (l.take j) i = accL c0 l i
  | 0, _ => rfl
  | i + 1, h => by
    rw [accL, accL, accL_take c0 l j i (by omega)]
    simp [List.getD_eq_getElem?_getD, List.getElem?_take, h]
theorem getD_take (l : List Int) (i j : Nat) (h : i < j) : (l.take j).getD i 0 = l.getD i 0 := by
  simp [List.getD_eq_getElem?_getD, List.getElem?_take, h]
theorem nx_take (l : List Int) (j : Nat) (h : 4 ≤ j) : nxL (l.take j) = nxL l := by
  have h0 := getD_take l 0 j (by omega)
  have hw := wantL_bd (l.getD 0 0)
  have hc : candL (l.take j) = candL l := by unfold candL; rw [h0, accL_take _ _ _ _ (by omega)]
  have e1 : (l.take j).length = 0 ↔ l.length = 0 := by rw [List.length_take]; omega
  have e2 : (l.take j).length < wantL (l.getD 0 0) ↔ l.length < wantL (l.getD 0 0) := by rw [List.length_take]; omega
  have e3 : (l.take j).take (wantL (l.getD 0 0)) = l.take (wantL (l.getD 0 0)) := by rw [List.take_take, Nat.min_eq_left (by omega)]
  unfold nxL
  rw [h0, hc, e3]
  simp only [e1, e2]

/-- The reference's letter of size k. -/
def refC (l : List Int) (k : Nat) : Int := accL (l.getD 0 0 % (if k = 1 then 256 else if k = 2 then 32 else if k = 3 then 16 else 8)) l (k - 1)
theorem ref_hit {l : List Int} {k : Nat} (hk : 1 ≤ k) (hl : k ≤ l.length) (h : putL (refC l k) = l.take k) : nxL l = (refC l k, k) := by
  have hlen : (putL (refC l k)).length = k := by rw [h, List.length_take]; omega
  have := nx_of_take (l := l) (n := refC l k) (fun e => by rw [e] at hlen; simp at hlen; omega) (by rw [hlen]; exact h)
  rwa [hlen] at this
theorem ref_miss {l : List Int} (hne : l ≠ []) (h : ∀ k, 1 ≤ k → k ≤ 4 → k ≤ l.length → ¬ putL (refC l k) = l.take k) : nxL l = (-1, 1) := by
  rcases nx_cases l with ⟨_, e⟩ | ⟨e, _⟩ | ⟨e, h1, h2, h3, h4⟩
  · exact absurd e hne
  · exact e
  · exfalso
    have hw := wantL_bd (l.getD 0 0)
    refine h _ hw.1 hw.2 h1 ?_
    obtain ⟨c, r, hc⟩ := List.exists_cons_of_ne_nil (l := putL (candL l)) (fun e => by rw [e, List.length_nil] at h3; omega)
    have hcc : c = l.getD 0 0 := by
      rw [h2] at hc
      cases l with
      | nil => exact absurd rfl hne
      | cons a t =>
        obtain ⟨k, hk⟩ : ∃ k, wantL ((a :: t).getD 0 0) = k + 1 := ⟨wantL ((a :: t).getD 0 0) - 1, by omega⟩
        rw [hk, List.take_succ_cons] at hc
        injection hc with hc1 _
        rw [← hc1]; rfl
    have hm := (putL_want hc).2
    rw [hcc] at hm
    have : refC l (wantL (l.getD 0 0)) = candL l := by
      unfold refC candL
      rw [hm]
    rw [this]; exact h2

/-- The place of the first byte from which no letter goes on, as told from 'at' on; the length, if there is none. -/
def endL (l : List Int) : Nat → Nat
  | 0 => 0
  | fuel + 1 => if (nxL l).1 = -1 then 0 else (nxL l).2 + endL (l.drop (nxL l).2) fuel
theorem endL_fuel : ∀ (f g : Nat) (l : List Int), l.length ≤ f → l.length ≤ g → endL l f = endL l g
  | 0, 0, _, _, _ => rfl
  | 0, g + 1, l, h, _ => by
    obtain rfl := List.eq_nil_of_length_eq_zero (Nat.le_zero.1 h)
    rfl
  | f + 1, 0, l, _, h => by
    obtain rfl := List.eq_nil_of_length_eq_zero (Nat.le_zero.1 h)
    rfl
  | f + 1, g + 1, l, hf, hg => by
    rw [endL, endL]
    split
    · rfl
    · rename_i h
      have := nx_found h
      rw [endL_fuel f g _ (by rw [List.length_drop]; omega) (by rw [List.length_drop]; omega)]
/-- The first place from which no letter's bytes go on; the length, if there is none. -/
def badU (l : List Int) : Nat := endL l l.length
theorem badU_stop {l : List Int} (h : (nxL l).1 = -1) : badU l = 0 := by
  unfold badU
  cases hl : l.length with
  | zero => rfl
  | succ k => rw [endL, if_pos h]
theorem badU_go {l : List Int} (h : (nxL l).1 ≠ -1) : badU l = (nxL l).2 + badU (l.drop (nxL l).2) := by
  have := nx_found h
  unfold badU
  cases hl : l.length with
  | zero => omega
  | succ k =>
    rw [endL, if_neg h, endL_fuel k _ (l.drop (nxL l).2) (by rw [List.length_drop]; omega) (Nat.le_refl _)]
theorem badU_le : ∀ (n : Nat) (l : List Int), l.length ≤ n → badU l ≤ l.length
  | 0, l, h => by
    obtain rfl := List.eq_nil_of_length_eq_zero (Nat.le_zero.1 h)
    exact Nat.le_refl _
  | n + 1, l, hl => by
    by_cases h : (nxL l).1 = -1
    · rw [badU_stop h]; omega
    · have hf := nx_found h
      have := badU_le n (l.drop (nxL l).2) (by rw [List.length_drop]; omega)
      rw [List.length_drop] at this
      rw [badU_go h]; omega
theorem badU_le' (l : List Int) : badU l ≤ l.length := badU_le _ l (Nat.le_refl _)
/-- From a place that was reached on. -/
theorem badU_from {l : List Int} {at_ : Nat} (h : badU l = at_ + badU (l.drop at_)) (hn : (nxL (l.drop at_)).1 ≠ -1) :
    badU l = (at_ + (nxL (l.drop at_)).2) + badU (l.drop (at_ + (nxL (l.drop at_)).2)) := by
  rw [h, badU_go hn, List.drop_drop]; omega
end Go.Proofs.YtcjnhgcopdofhaaDoor
