/- Kit3, Kit4, UtfMath, DecMath, DecMath2: merged. -/
import Derived.Test.YtcjfealalokjaaaGreatDoorPa02
set_option linter.all false
namespace Go.Proofs.YtcjfealalokjaaaGreatDoor
open Go Go.RowKit
/-- A literal's bytes in a new block, whatever its mark. -/
theorem Lies.lit (w : World) (C : List Int) (t : TypeId) (fr : Nat × Nat) : Lies (w.alloc (.cells (ints .u8 C).toArray t fr)) (some ⟨w.heap.size, 0, none⟩) C := fun _ =>
  ⟨w.heap.size, 0, rfl, by simp, by simp, fun j v hv => by
    rw [cell_of_row _ _ _ _ t fr (heap_alloc_new w _), Nat.zero_add]
    simpa using hv⟩
section
variable {P : Program} {w : World} {ops : Array Oper} {rest : List Oper} {o : Oper} {a : Act} {Q : Exit → Act → World → Prop}
end
end Go.Proofs.YtcjfealalokjaaaGreatDoor
namespace Go.Proofs.YtcjfealalokjaaaGreatDoor
open Go Go.RowKit
/-! ### Strings as numbers -/
theorem strL_append (a b : ByteArray) : strL (a ++ b) = strL a ++ strL b := by
  simp only [strL, ByteArray.data_append, Array.toList_append, List.map_append]
theorem toS_append {l m : List Int} (hl : Bytes l) (hm : Bytes m) : toS l ++ toS m = toS (l ++ m) := strL_inj (by rw [strL_append, strL_toS hl, strL_toS hm, strL_toS (hl.append hm)])
/-! ### Rows of bytes -/
theorem own_lies {w : World} {B e : Nat} {v : Value} {n : Nat} {xs : List Int} (h : w.ownsRow B e 1 v n (ints .u8 xs)) (hn : xs.length = n) : ∃ A c, v = .slice A n c ∧ n ≤ c ∧ Lies w A xs := by
  have h0 := h
  rcases h.2 with ⟨rfl, rfl⟩ | ⟨g, cap, cur, rfl, hb, hcell, hle, hm, _⟩
  · exact ⟨none, 0, rfl, Nat.le_refl _, fun hp => by omega⟩
  · refine ⟨_, cap, rfl, hle, fun _ => ⟨g, 0, rfl, ?_, ?_, fun j v hv => ?_⟩⟩
    · have := (h0.lt g rfl).2; omega
    · exact (h0.lt g rfl).2
    · have hj := (List.getElem?_eq_some_iff.1 hv).1
      rw [length_ints, hn] at hj
      rw [Nat.zero_add, h0.cellAt j (by omega)]
      exact hv
section
variable {P : Program} {w : World} {ops : Array Oper} {rest : List Oper} {o : Oper} {a : Act} {Q : Exit → Act → World → Prop}
end
/-! ### Bits of int -/
end Go.Proofs.YtcjfealalokjaaaGreatDoor
namespace Go.Proofs.YtcjfealalokjaaaGreatDoor
open Go Go.RowKit
theorem nx_of_take {l : List Int} {n : Int} (h : putL n ≠ []) (ht : putL n = l.take (putL n).length) : nxL l = (n, (putL n).length) := by
  have := nx_put h (l.drop (putL n).length)
  have e : putL n ++ l.drop (putL n).length = l := by
    have h2 := List.take_append_drop (putL n).length l
    rw [← ht] at h2
    exact h2
  rwa [e] at this
/-- The reference's letter of size k. -/
def refC (l : List Int) (k : Nat) : Int := accL (l.getD 0 0 % (if k = 1 then 256 else if k = 2 then 32 else if k = 3 then 16 else 8)) l (k - 1)
theorem ref_hit {l : List Int} {k : Nat} (hk : 1 ≤ k) (hl : k ≤ l.length) (h : putL (refC l k) = l.take k) : nxL l = (refC l k, k) := by
  have hlen : (putL (refC l k)).length = k := by rw [h, List.length_take]; omega
  have := nx_of_take (l := l) (n := refC l k) (fun e => by rw [e] at hlen; simp at hlen; omega) (by rw [hlen]; exact h)
  rwa [hlen] at this
theorem ref_miss {l : List Int} (hne : l ≠ []) (h : ∀ k, 1 ≤ k → k ≤ 4 → k ≤ l.length → ¬ putL (refC l k) = l.take k) : nxL l = (-1, 1) := by
  rcases nx_cases l with ⟨_, e⟩ | ⟨e, _⟩ | ⟨e, h1, h2, h3, h4⟩
  · exact absurd e hne
  · exact e
  · exfalso
    have hw := wantL_bd (l.getD 0 0)
    refine h _ hw.1 hw.2 h1 ?_
    obtain ⟨c, r, hc⟩ := List.exists_cons_of_ne_nil (l := putL (candL l)) (fun e => by rw [e, List.length_nil] at h3; omega)
    have hcc : c = l.getD 0 0 := by
      rw [h2] at hc
      cases l with
      | nil => exact absurd rfl hne
      | cons a t =>
        obtain ⟨k, hk⟩ : ∃ k, wantL ((a :: t).getD 0 0) = k + 1 := ⟨wantL ((a :: t).getD 0 0) - 1, by omega⟩
        rw [hk, List.take_succ_cons] at hc
        injection hc with hc1 _
        rw [← hc1]; rfl
    have hm := (putL_want hc).2
    rw [hcc] at hm
    have : refC l (wantL (l.getD 0 0)) = candL l := by
      unfold refC candL
      rw [hm]
    rw [this]; exact h2
end Go.Proofs.YtcjfealalokjaaaGreatDoor
namespace Go.Proofs.YtcjfealalokjaaaGreatDoor
open Go Go.RowKit
/-! ### A number's text -/
/-! ### The number of digits -/
theorem snocInd {P : List Int → Prop} (h0 : P []) (h1 : ∀ l c, P l → P (l ++ [c])) (l : List Int) : P l := by
  rw [← List.reverse_reverse l]
  induction l.reverse with
  | nil => exact h0
  | cons c r ih => rw [List.reverse_cons]; exact h1 _ _ ih
/-- Digits that don't begin with 0 are those of their number. -/
theorem digL_valL : ∀ (l : List Int), (∀ x ∈ l, 48 ≤ x ∧ x ≤ 57) → l ≠ [] → (49 ≤ l.getD 0 0 ∨ l.length = 1) → digL (valL l) = l := fun l => by
  induction l using snocInd with
  | h0 => intro _ h _; exact absurd rfl h
  | h1 l c ih =>
    intro h _ h0
    have h2 := h c (by simp)
    by_cases hl : l = []
    · subst hl
      rw [valL_snoc, digL_one (by show 0 * 10 + (c - 48).toNat < 10; omega)]
      show [48 + (((0 * 10 + (c - 48).toNat : Nat)) : Int)] = [c]
      have : (((0 * 10 + (c - 48).toNat : Nat)) : Int) = c - 48 := by omega
      rw [this]; congr 1; omega
    · have hg : (l ++ [c]).getD 0 0 = l.getD 0 0 := by
        obtain ⟨a, r, rfl⟩ := List.exists_cons_of_ne_nil hl
        rfl
      have hlen : (l ++ [c]).length ≠ 1 := by
        have := List.length_pos_iff.2 hl
        rw [List.length_append, List.length_cons, List.length_nil]; omega
      have h49 : 49 ≤ l.getD 0 0 := by
        rcases h0 with h0 | h0
        · rw [hg] at h0; exact h0
        · exact absurd h0 hlen
      have h1 := ih (fun x hx => h x (List.mem_append_left _ hx)) hl (.inl h49)
      have hpos : 0 < valL l := by
        rcases Nat.eq_zero_or_pos (valL l) with hz | hz
        · rw [hz, digL_one (by decide)] at h1
          rw [← h1] at h49
          simp at h49
        · exact hz
      rw [valL_snoc, digL_more (by omega)]
      have e1 : (valL l * 10 + (c - 48).toNat) / 10 = valL l := by omega
      have e2 : (((valL l * 10 + (c - 48).toNat) % 10 : Nat) : Int) = c - 48 := by omega
      rw [e1, h1, e2]
      congr 2; omega
/-! ### How much of a text is a number's -/
end Go.Proofs.YtcjfealalokjaaaGreatDoor
namespace Go.Proofs.YtcjfealalokjaaaGreatDoor
open Go Go.RowKit
/-! ### Which number is less -/
theorem valL_cons (c : Int) (r : List Int) : valL (c :: r) = (c - 48).toNat * 10 ^ r.length + valL r := by
  rw [valL_eq, List.foldl_cons, fold_acc, Nat.zero_mul, Nat.zero_add]
theorem valL_ge {l : List Int} (h : 49 ≤ l.getD 0 0) : 10 ^ (l.length - 1) ≤ valL l := by
  cases l with
  | nil => simp at h
  | cons c r =>
    rw [List.getD_cons_zero] at h
    rw [valL_cons, List.length_cons, Nat.add_sub_cancel]
    have : 1 * 10 ^ r.length ≤ (c - 48).toNat * 10 ^ r.length := Nat.mul_le_mul_right _ (by omega)
    omega
/-! ### What is read -/
/-- A text that is a number's is that of its number. -/
theorem prL_numL {l : List Int} (h : formL l = true) : prL (numL l) = l := by
  rcases formL_parts h with ⟨h45, hall, h49, he⟩ | ⟨h45, hall, hne, h1⟩
  · have hv : digL (valL (l.drop 1)) = l.drop 1 := digL_valL _ hall (fun e => by rw [e] at h49; simp at h49) (.inl h49)
    have hpos : 0 < valL (l.drop 1) := by
      have := valL_ge h49
      have : 0 < 10 ^ ((l.drop 1).length - 1) := Nat.pow_pos (by decide)
      omega
    unfold numL prL
    rw [if_pos h45, if_pos (by omega), show (-(valL (l.drop 1) : Int)).natAbs = valL (l.drop 1) by omega, hv]
    exact he.symm
  · unfold numL prL
    rw [if_neg h45, if_neg (by omega), show ((valL l : Nat) : Int).natAbs = valL l by omega, digL_valL _ hall hne h1]
end Go.Proofs.YtcjfealalokjaaaGreatDoor
