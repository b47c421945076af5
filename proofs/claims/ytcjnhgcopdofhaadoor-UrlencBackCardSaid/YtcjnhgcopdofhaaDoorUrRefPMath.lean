/- The mathematics of the reference's Parse: parts by places. -/
import Derived.Test.YtcjnhgcopdofhaaDoorUrParts
namespace Go.Proofs.YtcjnhgcopdofhaaDoor
open Go Go.RowKit

theorem part_head : ∀ l : List Int, ∃ p rest, partsL l = p :: rest ∧ 38 ∉ p ∧ l.take p.length = p ∧ p.length ≤ l.length ∧ ((p.length = l.length ∧ rest = []) ∨ (l.drop p.length = 38 :: l.drop (p.length + 1) ∧ rest = partsL (l.drop (p.length + 1))))
  | [] => ⟨[], [], rfl, by simp, rfl, Nat.le_refl _, .inl ⟨rfl, rfl⟩⟩
  | c :: r => by
    by_cases hc : c = 38
    · subst hc
      exact ⟨[], partsL r, by rw [partsL, if_pos rfl], by simp, rfl, by simp, .inr ⟨rfl, rfl⟩⟩
    · obtain ⟨p, rest, h1, h2, h3, h4, h5⟩ := part_head r
      refine ⟨c :: p, rest, by rw [partsL, if_neg hc, h1], fun h => ?_, by simp [h3], by simp [h4], ?_⟩
      · rcases List.mem_cons.1 h with e | e
        · exact hc e.symm
        · exact h2 e
      · rcases h5 with ⟨h5, h6⟩ | ⟨h5, h6⟩
        · exact .inl ⟨by simp [h5], h6⟩
        · exact .inr ⟨by simpa using h5, by simpa using h6⟩
theorem getD_tk {l p : List Int} {k : Nat} (h : (l.drop k).take p.length = p) (i : Nat) (hi : i < p.length) : l.getD (k + i) 0 = p.getD i 0 := by
  have : ((l.drop k).take p.length).getD i 0 = p.getD i 0 := by rw [h]
  rw [← this, List.getD_eq_getElem?_getD, List.getD_eq_getElem?_getD, List.getElem?_take, if_pos hi, List.getElem?_drop]
theorem getD_mem {p : List Int} {i : Nat} (h : i < p.length) : p.getD i 0 ∈ p := by
  rw [List.getD_eq_getElem?_getD, List.getElem?_eq_getElem h]; exact List.getElem_mem h
/-- A text's first part from a place on, by places: its end q, its name's end r. -/
theorem part_places (l : List Int) (k : Nat) (hk : k ≤ l.length) : ∃ p rest, partsL (l.drop k) = p :: rest ∧ k + p.length ≤ l.length ∧
    (∀ i, k ≤ i → i < k + p.length → l.getD i 0 ≠ 38) ∧ (∀ i, k ≤ i → i < k + (nameL p).length → l.getD i 0 ≠ 61) ∧
    ((k + p.length = l.length ∧ rest = []) ∨ (k + p.length < l.length ∧ l.getD (k + p.length) 0 = 38 ∧ rest = partsL (l.drop (k + (p.length + 1))))) ∧
    ((61 ∉ p ∧ nameL p = p ∧ valL p = []) ∨ ((nameL p).length < p.length ∧ l.getD (k + (nameL p).length) 0 = 61 ∧ 61 ∉ nameL p ∧ p = nameL p ++ 61 :: valL p ∧ (l.take (k + p.length)).drop (k + ((nameL p).length + 1)) = valL p)) ∧
    (l.take (k + (nameL p).length)).drop k = nameL p := by
  obtain ⟨p, rest, h1, h2, h3, h4, h5⟩ := part_head (l.drop k)
  rw [List.length_drop] at h4
  have hpk : k + p.length ≤ l.length := by omega
  have g : ∀ i, i < p.length → l.getD (k + i) 0 = p.getD i 0 := fun i hi => getD_tk h3 i hi
  have hnl := nameL_len p
  refine ⟨p, rest, h1, hpk, fun i a b => ?_, fun i a b => ?_, ?_, ?_, ?_⟩
  · obtain ⟨j, rfl⟩ : ∃ j, i = k + j := ⟨i - k, by omega⟩
    rw [g j (by omega)]
    exact fun e => h2 (e ▸ getD_mem (by omega))
  · obtain ⟨j, rfl⟩ : ∃ j, i = k + j := ⟨i - k, by omega⟩
    rw [g j (by omega)]
    intro e
    rcases part_forms p with ⟨hn, _, _⟩ | ⟨he, hn⟩
    · exact hn (e ▸ getD_mem (by omega))
    · have : p.getD j 0 = (nameL p).getD j 0 := by
        conv => lhs; rw [he]
        rw [List.getD_eq_getElem?_getD, List.getElem?_append_left (by omega), ← List.getD_eq_getElem?_getD]
      rw [this] at e
      exact hn (e ▸ getD_mem (by omega))
  · rcases h5 with ⟨h5, h6⟩ | ⟨h5, h6⟩
    · rw [List.length_drop] at h5
      exact .inl ⟨by omega, h6⟩
    · have hlt : k + p.length < l.length := by
        have := congrArg List.length h5
        simp only [List.length_drop, List.length_cons] at this; omega
      refine .inr ⟨hlt, ?_, by rw [h6, List.drop_drop]⟩
      have := congrArg (fun x => x.getD 0 0) h5
      simp only [List.drop_drop] at this
      rw [List.getD_eq_getElem?_getD, List.getElem?_drop, Nat.add_zero, ← List.getD_eq_getElem?_getD] at this
      exact this
  · rcases part_forms p with h | ⟨he, hn⟩
    · exact .inl h
    · have hl : p.length = (nameL p).length + ((valL p).length + 1) := by
        have := congrArg List.length he
        simpa using this
      obtain ⟨a, ha⟩ : ∃ a, a = nameL p := ⟨_, rfl⟩
      obtain ⟨b, hb⟩ : ∃ b, b = valL p := ⟨_, rfl⟩
      rw [← ha] at he hn hl hnl ⊢
      rw [← hb] at he hl ⊢
      refine .inr ⟨by omega, ?_, hn, he, ?_⟩
      · rw [g _ (by omega), he, List.getD_eq_getElem?_getD, List.getElem?_append_right (Nat.le_refl _)]; simp
      · have e1 : ((l.drop k).take p.length).drop (a.length + 1) = b := by
          rw [h3, he, List.drop_append]; simp
        rw [← e1, List.drop_take, List.drop_take, List.drop_drop, show k + p.length - (k + (a.length + 1)) = p.length - (a.length + 1) by omega]
  · rw [List.drop_take, show k + (nameL p).length - k = (nameL p).length by omega]
    have : (l.drop k).take (nameL p).length = p.take (nameL p).length := by
      have e1 : ((l.drop k).take p.length).take (nameL p).length = p.take (nameL p).length := by rw [h3]
      rw [← e1, List.take_take, Nat.min_eq_left hnl]
    rw [this]
    obtain ⟨a, ha⟩ : ∃ a, a = nameL p := ⟨_, rfl⟩
    rcases part_forms p with ⟨_, hn, _⟩ | ⟨he, hn⟩
    · rw [hn, List.take_length]
    · rw [← ha] at he ⊢
      rw [he, List.take_left]
/-- The empty rest: the parts are all told. -/
def restL (l : List Int) (k : Nat) : List (List Int) := if k ≤ l.length then partsL (l.drop k) else []
theorem rest_step {l p : List Int} {rest : List (List Int)} {k : Nat} (h : (k + p.length = l.length ∧ rest = []) ∨ (k + p.length < l.length ∧ l.getD (k + p.length) 0 = 38 ∧ rest = partsL (l.drop (k + (p.length + 1))))) : restL l (k + (p.length + 1)) = rest := by
  unfold restL
  rcases h with ⟨h1, h2⟩ | ⟨h1, _, h2⟩
  · rw [if_neg (by omega), h2]
  · rw [if_pos (by omega), h2]
end Go.Proofs.YtcjnhgcopdofhaaDoor
