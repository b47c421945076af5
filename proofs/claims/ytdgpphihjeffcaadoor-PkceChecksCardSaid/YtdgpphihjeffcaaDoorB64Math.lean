/- The plain mathematics of base64url: what the program's text computes, as functions on lists of numbers. -/
import Derived.Test.YtdgpphihjeffcaaDoorKit
namespace Go.Proofs.YtdgpphihjeffcaaDoor
open Go Go.RowKit

/-- The sign of a worth. -/
def sg (n : Int) : Int := if n < 26 then n + 65 else if n < 52 then n + 71 else if n < 62 then n - 4 else if n < 63 then 45 else 95
/-- The worth of a sign; 64: it is none. -/
def wo (c : Int) : Int := if 65 ≤ c ∧ c ≤ 90 then c - 65 else if 97 ≤ c ∧ c ≤ 122 then c - 71 else if 48 ≤ c ∧ c ≤ 57 then c + 4 else if c = 45 then 62 else if c = 95 then 63 else 64
theorem wo_bd (c : Int) : 0 ≤ wo c ∧ wo c ≤ 64 := by unfold wo; split <;> (try split) <;> (try split) <;> (try split) <;> (try split) <;> omega
theorem sg_bd (n : Int) (h : 0 ≤ n ∧ n < 64) : 45 ≤ sg n ∧ sg n ≤ 122 := by unfold sg; split <;> (try split) <;> (try split) <;> (try split) <;> omega
theorem wo_sg (n : Int) (h : 0 ≤ n ∧ n < 64) : wo (sg n) = n := by
  unfold sg
  split
  · unfold wo; rw [if_pos (by omega)]; omega
  · split
    · unfold wo; rw [if_neg (by omega), if_pos (by omega)]; omega
    · split
      · unfold wo; rw [if_neg (by omega), if_neg (by omega), if_pos (by omega)]; omega
      · split
        · unfold wo; rw [if_neg (by omega), if_neg (by omega), if_neg (by omega), if_pos (by omega)]; omega
        · unfold wo; rw [if_neg (by omega), if_neg (by omega), if_neg (by omega), if_neg (by omega), if_pos (by omega)]; omega
theorem sg_wo (c : Int) (h : wo c ≠ 64) : sg (wo c) = c := by
  by_cases h1 : 65 ≤ c ∧ c ≤ 90
  · rw [show wo c = c - 65 from by unfold wo; rw [if_pos h1]]; unfold sg; rw [if_pos (by omega)]; omega
  · by_cases h2 : 97 ≤ c ∧ c ≤ 122
    · rw [show wo c = c - 71 from by unfold wo; rw [if_neg h1, if_pos h2]]; unfold sg; rw [if_neg (by omega), if_pos (by omega)]; omega
    · by_cases h3 : 48 ≤ c ∧ c ≤ 57
      · rw [show wo c = c + 4 from by unfold wo; rw [if_neg h1, if_neg h2, if_pos h3]]; unfold sg; rw [if_neg (by omega), if_neg (by omega), if_pos (by omega)]; omega
      · by_cases h4 : c = 45
        · subst h4; rfl
        · by_cases h5 : c = 95
          · subst h5; rfl
          · exact absurd (by unfold wo; rw [if_neg h1, if_neg h2, if_neg h3, if_neg h4, if_neg h5]) h

/-- The text of bytes. -/
def encL : List Int → List Int
  | a :: b :: c :: r => sg (a / 4) :: sg (a % 4 * 16 + b / 16) :: sg (b % 16 * 4 + c / 64) :: sg (c % 64) :: encL r
  | [a, b] => [sg (a / 4), sg (a % 4 * 16 + b / 16), sg (b % 16 * 4)]
  | [a] => [sg (a / 4), sg (a % 4 * 16)]
  | [] => []
/-- The bytes of a text. -/
def decL : List Int → List Int
  | a :: b :: c :: d :: r => (wo a * 4 + wo b / 16) :: (wo b % 16 * 16 + wo c / 4) :: (wo c % 4 * 64 + wo d) :: decL r
  | [a, b, c] => [wo a * 4 + wo b / 16, wo b % 16 * 16 + wo c / 4]
  | [a, b] => [wo a * 4 + wo b / 16]
  | _ => []
/-- The place of the first byte that is no sign; the length, if there is none. -/
def badL : List Int → Nat
  | [] => 0
  | c :: r => if wo c = 64 then 0 else badL r + 1
theorem badL_le : ∀ l, badL l ≤ l.length
  | [] => Nat.le_refl _
  | c :: r => by
    have := badL_le r
    unfold badL
    split
    · exact Nat.zero_le _
    · simp; omega
theorem badL_good : ∀ (l : List Int) (k : Nat), k < badL l → wo (l.getD k 0) ≠ 64
  | [], k, h => absurd h (by simp [badL])
  | c :: r, k, h => by
    by_cases hc : wo c = 64
    · rw [badL, if_pos hc] at h; omega
    · rw [badL, if_neg hc] at h
      match k with
      | 0 => exact hc
      | k + 1 => exact badL_good r k (by omega)
theorem badL_bad : ∀ (l : List Int), badL l < l.length → wo (l.getD (badL l) 0) = 64
  | [], h => absurd h (by simp)
  | c :: r, h => by
    by_cases hc : wo c = 64
    · rw [badL, if_pos hc]; exact hc
    · rw [badL, if_neg hc] at h ⊢
      exact badL_bad r (by simpa using h)
theorem badL_of : ∀ (l : List Int) (k : Nat), k ≤ l.length → (∀ j, j < k → wo (l.getD j 0) ≠ 64) → (k < l.length → wo (l.getD k 0) = 64) → badL l = k
  | [], k, h, _, _ => by simp at h; subst h; rfl
  | c :: r, k, h, h1, h2 => by
    match k with
    | 0 => rw [badL, if_pos (show wo c = 64 from h2 (by simp))]
    | k + 1 =>
      rw [badL, if_neg (show wo c ≠ 64 from h1 0 (by omega)), badL_of r k (by simpa using h) (fun j hj => h1 (j + 1) (by omega)) (fun hk => h2 (by simpa using hk))]
/-- The last sign's bits behind the last whole byte. -/
def looseL (l : List Int) : Int := wo (l.getD (l.length - 1) 0) % (if l.length % 4 = 2 then 16 else 4)
/-- What is wrong with a text: its place, or -1. -/
def faultL (l : List Int) : Int :=
  if badL l < l.length then (badL l : Int) else if l.length % 4 = 0 then -1 else if l.length % 4 = 1 then (l.length : Int) else if looseL l = 0 then -1 else (l.length : Int) - 1

theorem length_encL : ∀ l : List Int, (encL l).length = (8 * l.length + 5) / 6
  | [] => rfl
  | [_] => by simp [encL]
  | [_, _] => by simp [encL]
  | a :: b :: c :: r => by
    have := length_encL r
    simp only [encL, List.length_cons]
    omega
theorem encL_append : ∀ (x y : List Int), x.length % 3 = 0 → encL (x ++ y) = encL x ++ encL y
  | [], y, _ => rfl
  | [_], y, h => by simp at h
  | [_, _], y, h => by simp at h
  | a :: b :: c :: r, y, h => by
    simp only [List.cons_append, encL, encL_append r y (by simp at h; omega)]
theorem decL_append : ∀ (x y : List Int), x.length % 4 = 0 → decL (x ++ y) = decL x ++ decL y
  | [], y, _ => rfl
  | [_], y, h => by simp at h
  | [_, _], y, h => by simp at h
  | [_, _, _], y, h => by simp at h
  | a :: b :: c :: d :: r, y, h => by
    simp only [List.cons_append, decL, decL_append r y (by simp at h; omega)]
theorem length_decL : ∀ l : List Int, (decL l).length = l.length * 6 / 8
  | [] => rfl
  | [_] => by simp [decL]
  | [_, _] => by simp [decL]
  | [_, _, _] => by simp [decL]
  | a :: b :: c :: d :: r => by
    have := length_decL r
    simp only [decL, List.length_cons]
    omega
/-- The next group of three. -/
theorem take_three (l : List Int) (k : Nat) (h : 3 * k + 3 ≤ l.length) : l.take (3 * (k + 1)) = l.take (3 * k) ++ [l.getD (3 * k) 0, l.getD (3 * k + 1) 0, l.getD (3 * k + 2) 0] := by
  have e : 3 * (k + 1) = 3 * k + 1 + 1 + 1 := by omega
  rw [e, List.take_add_one, List.take_add_one, List.take_add_one, List.append_assoc, List.append_assoc]
  simp [List.getD, List.getElem?_eq_getElem (show 3 * k < l.length by omega), List.getElem?_eq_getElem (show 3 * k + 1 < l.length by omega), List.getElem?_eq_getElem (show 3 * k + 2 < l.length by omega)]
theorem enc_three (l : List Int) (k : Nat) (h : 3 * k + 3 ≤ l.length) : encL (l.take (3 * (k + 1))) = encL (l.take (3 * k)) ++ encL [l.getD (3 * k) 0, l.getD (3 * k + 1) 0, l.getD (3 * k + 2) 0] := by
  rw [take_three l k h, encL_append _ _ (by rw [List.length_take, Nat.min_eq_left (by omega)]; omega)]
theorem take_four (l : List Int) (k : Nat) (h : 4 * k + 4 ≤ l.length) : l.take (4 * (k + 1)) = l.take (4 * k) ++ [l.getD (4 * k) 0, l.getD (4 * k + 1) 0, l.getD (4 * k + 2) 0, l.getD (4 * k + 3) 0] := by
  have e : 4 * (k + 1) = 4 * k + 1 + 1 + 1 + 1 := by omega
  rw [e, List.take_add_one, List.take_add_one, List.take_add_one, List.take_add_one, List.append_assoc, List.append_assoc, List.append_assoc]
  simp [List.getD, List.getElem?_eq_getElem (show 4 * k < l.length by omega), List.getElem?_eq_getElem (show 4 * k + 1 < l.length by omega), List.getElem?_eq_getElem (show 4 * k + 2 < l.length by omega), List.getElem?_eq_getElem (show 4 * k + 3 < l.length by omega)]
theorem dec_four (l : List Int) (k : Nat) (h : 4 * k + 4 ≤ l.length) : decL (l.take (4 * (k + 1))) = decL (l.take (4 * k)) ++ decL [l.getD (4 * k) 0, l.getD (4 * k + 1) 0, l.getD (4 * k + 2) 0, l.getD (4 * k + 3) 0] := by
  rw [take_four l k h, decL_append _ _ (by rw [List.length_take, Nat.min_eq_left (by omega)]; omega)]

/-! Signs. -/
def Byt (l : List Int) : Prop := ∀ x ∈ l, 0 ≤ x ∧ x ≤ 255
theorem encL_signs : ∀ (l : List Int), Byt l → ∀ c ∈ encL l, ∃ n : Int, 0 ≤ n ∧ n < 64 ∧ c = sg n
  | [], _, c, hc => by simp [encL] at hc
  | [a], h, c, hc => by
    have ha := h a (by simp)
    simp only [encL, List.mem_cons, List.not_mem_nil, or_false] at hc
    rcases hc with rfl | rfl
    · exact ⟨_, by omega, by omega, rfl⟩
    · exact ⟨_, by omega, by omega, rfl⟩
  | [a, b], h, c, hc => by
    have ha := h a (by simp)
    have hb := h b (by simp)
    simp only [encL, List.mem_cons, List.not_mem_nil, or_false] at hc
    rcases hc with rfl | rfl | rfl
    · exact ⟨_, by omega, by omega, rfl⟩
    · exact ⟨_, by omega, by omega, rfl⟩
    · exact ⟨_, by omega, by omega, rfl⟩
  | a :: b :: d :: r, h, c, hc => by
    have ha := h a (by simp)
    have hb := h b (by simp)
    have hd := h d (by simp)
    simp only [encL, List.mem_cons] at hc
    rcases hc with rfl | rfl | rfl | rfl | hc
    · exact ⟨_, by omega, by omega, rfl⟩
    · exact ⟨_, by omega, by omega, rfl⟩
    · exact ⟨_, by omega, by omega, rfl⟩
    · exact ⟨_, by omega, by omega, rfl⟩
    · exact encL_signs r (fun x hx => h x (by simp [hx])) c hc

/-! There and back. -/
theorem decL_encL : ∀ (l : List Int), Byt l → decL (encL l) = l
  | [], _ => rfl
  | [a], h => by
    have ha := h a (by simp)
    simp only [encL, decL, wo_sg (a / 4) (by omega), wo_sg (a % 4 * 16) (by omega)]
    congr 1; omega
  | [a, b], h => by
    have ha := h a (by simp)
    have hb := h b (by simp)
    simp only [encL, decL, wo_sg (a / 4) (by omega), wo_sg (a % 4 * 16 + b / 16) (by omega), wo_sg (b % 16 * 4) (by omega)]
    congr 1
    · omega
    · congr 1; omega
  | a :: b :: c :: r, h => by
    have ha := h a (by simp)
    have hb := h b (by simp)
    have hc := h c (by simp)
    simp only [encL, decL, wo_sg (a / 4) (by omega), wo_sg (a % 4 * 16 + b / 16) (by omega), wo_sg (b % 16 * 4 + c / 64) (by omega), wo_sg (c % 64) (by omega), decL_encL r (fun x hx => h x (by simp [hx]))]
    congr 1
    · omega
    · congr 1
      · omega
      · congr 1; omega
theorem badL_all : ∀ (l : List Int), (∀ c ∈ l, wo c ≠ 64) → badL l = l.length
  | [], _ => rfl
  | c :: r, h => by rw [badL, if_neg (h c (by simp)), badL_all r (fun x hx => h x (by simp [hx]))]; rfl
theorem getD_last_append (x y : List Int) (h : y ≠ []) : (x ++ y).getD ((x ++ y).length - 1) 0 = y.getD (y.length - 1) 0 := by
  have : 0 < y.length := by rcases y with _ | _ <;> simp_all
  simp only [List.getD_eq_getElem?_getD, List.length_append]
  rw [List.getElem?_append_right (by omega)]
  congr 2; omega
theorem looseL_enc : ∀ (l : List Int), Byt l → (encL l).length % 4 ≠ 0 → looseL (encL l) = 0
  | [], _, h => absurd rfl h
  | [a], h, _ => by
    have ha := h a (by simp)
    show wo (sg (a % 4 * 16)) % 16 = 0
    rw [wo_sg _ (by omega)]; omega
  | [a, b], h, _ => by
    have ha := h a (by simp)
    have hb := h b (by simp)
    show wo (sg (b % 16 * 4)) % 4 = 0
    rw [wo_sg _ (by omega)]; omega
  | a :: b :: c :: r, h, hl => by
    have ih := looseL_enc r (fun x hx => h x (by simp [hx])) (by simp only [encL, List.length_cons] at hl; omega)
    have hne : encL r ≠ [] := by
      intro e
      rw [encL, e] at hl
      simp at hl
    have := getD_last_append [sg (a / 4), sg (a % 4 * 16 + b / 16), sg (b % 16 * 4 + c / 64), sg (c % 64)] (encL r) hne
    unfold looseL at ih ⊢
    have e : encL (a :: b :: c :: r) = [sg (a / 4), sg (a % 4 * 16 + b / 16), sg (b % 16 * 4 + c / 64), sg (c % 64)] ++ encL r := rfl
    rw [e, this]
    have e2 : ([sg (a / 4), sg (a % 4 * 16 + b / 16), sg (b % 16 * 4 + c / 64), sg (c % 64)] ++ encL r).length % 4 = (encL r).length % 4 := by simp; omega
    rw [e2]; exact ih
theorem fault_enc (l : List Int) (h : Byt l) : faultL (encL l) = -1 := by
  have h1 : badL (encL l) = (encL l).length := badL_all _ fun c hc => by
    obtain ⟨n, h0, h1, rfl⟩ := encL_signs l h c hc
    rw [wo_sg n ⟨h0, h1⟩]; omega
  unfold faultL
  rw [if_neg (by omega)]
  by_cases h4 : (encL l).length % 4 = 0
  · rw [if_pos h4]
  · rw [if_neg h4, if_neg (by rw [length_encL]; omega), if_pos (looseL_enc l h h4)]
theorem encL_decL : ∀ (l : List Int), badL l = l.length → l.length % 4 ≠ 1 → (l.length % 4 ≠ 0 → looseL l = 0) → encL (decL l) = l
  | [], _, _, _ => rfl
  | [_], _, h, _ => absurd rfl h
  | [a, b], hb, _, hl => by
    have ga : wo a ≠ 64 := badL_good [a, b] 0 (by rw [hb]; simp)
    have gb : wo b ≠ 64 := badL_good [a, b] 1 (by rw [hb]; simp)
    have h0 : wo b % 16 = 0 := hl (by simp)
    have ba := wo_bd a
    have bb := wo_bd b
    simp only [decL, encL]
    rw [show (wo a * 4 + wo b / 16) / 4 = wo a by omega, show (wo a * 4 + wo b / 16) % 4 * 16 = wo b by omega, sg_wo a ga, sg_wo b gb]
  | [a, b, c], hb, _, hl => by
    have ga : wo a ≠ 64 := badL_good [a, b, c] 0 (by rw [hb]; simp)
    have gb : wo b ≠ 64 := badL_good [a, b, c] 1 (by rw [hb]; simp)
    have gc : wo c ≠ 64 := badL_good [a, b, c] 2 (by rw [hb]; simp)
    have h0 : wo c % 4 = 0 := hl (by simp)
    have ba := wo_bd a
    have bb := wo_bd b
    have bc := wo_bd c
    simp only [decL, encL]
    rw [show (wo a * 4 + wo b / 16) / 4 = wo a by omega, show (wo a * 4 + wo b / 16) % 4 * 16 + (wo b % 16 * 16 + wo c / 4) / 16 = wo b by omega, show (wo b % 16 * 16 + wo c / 4) % 16 * 4 = wo c by omega, sg_wo a ga, sg_wo b gb, sg_wo c gc]
  | a :: b :: c :: d :: r, hb, h1, hl => by
    have ga : wo a ≠ 64 := badL_good (a :: b :: c :: d :: r) 0 (by rw [hb]; simp)
    have gb : wo b ≠ 64 := badL_good (a :: b :: c :: d :: r) 1 (by rw [hb]; simp)
    have gc : wo c ≠ 64 := badL_good (a :: b :: c :: d :: r) 2 (by rw [hb]; simp)
    have gd : wo d ≠ 64 := badL_good (a :: b :: c :: d :: r) 3 (by rw [hb]; simp)
    have ba := wo_bd a
    have bb := wo_bd b
    have bc := wo_bd c
    have bd := wo_bd d
    have hbr : badL r = r.length := by
      simp only [badL, if_neg ga, if_neg gb, if_neg gc, if_neg gd, List.length_cons] at hb
      omega
    have hlr : r.length % 4 ≠ 0 → looseL r = 0 := fun h => by
      have := hl (by simp only [List.length_cons]; omega)
      have hne : r ≠ [] := by rintro rfl; simp at h
      have e := getD_last_append [a, b, c, d] r hne
      have e2 : ([a, b, c, d] ++ r).length % 4 = r.length % 4 := by simp; omega
      unfold looseL at this ⊢
      rw [show a :: b :: c :: d :: r = [a, b, c, d] ++ r from rfl, e, e2] at this
      exact this
    have ih := encL_decL r hbr (by simp only [List.length_cons] at h1; omega) hlr
    simp only [decL, encL, ih]
    rw [show (wo a * 4 + wo b / 16) / 4 = wo a by omega, show (wo a * 4 + wo b / 16) % 4 * 16 + (wo b % 16 * 16 + wo c / 4) / 16 = wo b by omega, show (wo b % 16 * 16 + wo c / 4) % 16 * 4 + (wo c % 4 * 64 + wo d) / 64 = wo c by omega, show (wo c % 4 * 64 + wo d) % 64 = wo d by omega, sg_wo a ga, sg_wo b gb, sg_wo c gc, sg_wo d gd]
theorem enc_of_right (l : List Int) (h : faultL l = -1) : encL (decL l) = l := by
  unfold faultL at h
  have hle := badL_le l
  split at h
  · omega
  · rename_i h0
    split at h
    · rename_i h4
      exact encL_decL l (by omega) (by omega) (fun h => absurd h4 h)
    · rename_i h4
      split at h
      · omega
      · rename_i h1
        split at h
        · rename_i hz
          exact encL_decL l (by omega) h1 (fun _ => hz)
        · omega
end Go.Proofs.YtdgpphihjeffcaaDoor
