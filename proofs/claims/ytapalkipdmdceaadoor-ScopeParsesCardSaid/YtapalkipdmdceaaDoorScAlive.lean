/- The walk of layer 7's alive: the chapter's examples. -/
import Derived.Test.YtapalkipdmdceaaDoorScParse
namespace Go.Proofs.YtapalkipdmdceaaDoor
open Go Go.RowKit

def sRead : ByteArray := ⟨#[114, 101, 97, 100]⟩
def sWrite : ByteArray := ⟨#[119, 114, 105, 116, 101]⟩
def sEx : ByteArray := ⟨#[114, 101, 97, 100, 32, 119, 114, 105, 116, 101, 32, 114, 101, 97, 100]⟩
theorem ltS_nm (a b : ByteArray) : ltS a b = Op.bytesLess (nmL a) (nmL b) := by unfold ltS; rw [nmL_toList, nmL_toList]
theorem words_ex : textW sEx = [sRead, sWrite, sRead] := by decide +kernel
theorem set_ex : setS [sRead, sWrite, sRead] = [sRead, sWrite] := by
  refine (setS_eq ?_ fun x => ?_).symm
  · have h : ltS sRead sWrite = true := by rw [ltS_nm]; decide +kernel
    simp [RiseS, h]
  · simp [or_comm, or_left_comm]
theorem ok_ex : okW (textW sEx) = true := by
  rw [words_ex]
  refine okW_good ?_ (by rw [set_ex]; decide)
  intro x hx
  have h1 : nameB (strL sRead) = true := by decide +kernel
  have h2 : nameB (strL sWrite) = true := by decide +kernel
  simp at hx
  rcases hx with rfl | rfl | rfl <;> first | exact h1 | exact h2
theorem parse_ex : parseN sEx = [sRead, sWrite] := by rw [parsed_good ok_ex, words_ex, set_ex]
def sA : ByteArray := ⟨#[97]⟩
def sB : ByteArray := ⟨#[98]⟩
def sC : ByteArray := ⟨#[99]⟩
theorem both_ex : setS ([sA, sB].filter (hasN [sB, sC])) = [sB] := by
  refine (setS_eq (by simp [RiseS]) fun x => ?_).symm
  rw [List.mem_filter, hasN_iff]
  have h1 : sA ≠ sB := by decide +kernel
  have h2 : sA ≠ sC := by decide +kernel
  simp only [List.mem_cons, List.not_mem_nil, or_false]
  constructor
  · rintro rfl; exact ⟨.inr rfl, .inl rfl⟩
  · rintro ⟨rfl | rfl, h⟩
    · rcases h with h | h
      · exact absurd h h1
      · exact absurd h h2
    · rfl
theorem alive_p (w : World) (hm : MaxLS w) : Calls Tryd.prog 6 #[.string ⟨#[114, 101, 97, 100, 32, 119, 114, 105, 116, 101, 32, 114, 101, 97, 100]⟩] w fun e w' => ∃ b o c, e = .returned (.tuple #[.slice (some ⟨b, o, none⟩) 2 c, .nilIface]) ∧ w'.cell? ⟨b, o, none⟩ = some (.string ⟨#[114, 101, 97, 100]⟩) ∧ (2 : Int) ≤ c ∧ Below w.heap.size w w' := by
  refine (parseS_any sEx w hm (by decide)).mono ?_
  rintro e w' ⟨v, rfl, hs, hb⟩
  rw [parse_ex] at hs
  obtain ⟨A, c, rfl, hc, hl, -⟩ := hs
  obtain ⟨b, o, rfl, -, hcell⟩ := hl (by simp)
  have hc' : 2 ≤ c := hc
  exact ⟨b, o, c, by rw [ok_ex]; rfl, hcell 0 _ rfl, by omega, hb⟩
theorem alive_b (w : World) : Calls Tryd.prog 17 #[.slice (some ⟨w.heap.size, 0, none⟩) 2 2, .slice (some ⟨w.heap.size + 1, 0, none⟩) 2 2] ((w.alloc (.cells #[.string ⟨#[97]⟩, .string ⟨#[98]⟩] 9)).alloc (.cells #[.string ⟨#[98]⟩, .string ⟨#[99]⟩] 9)) fun e w' => ∃ b o c, e = .returned (.slice (some ⟨b, o, none⟩) 1 c) ∧ w'.cell? ⟨b, o, none⟩ = some (.string ⟨#[98]⟩) ∧ (1 : Int) ≤ c ∧ Below w.heap.size w w' := by
  have hok1 : NmOk [sA, sB] := by intro x hx; simp at hx; rcases hx with rfl | rfl <;> decide
  have hok2 : NmOk [sB, sC] := by intro x hx; simp at hx; rcases hx with rfl | rfl <;> decide
  have h1 : SliceN (w.alloc (.cells #[.string ⟨#[97]⟩, .string ⟨#[98]⟩] 9)) (.slice (some ⟨w.heap.size, 0, none⟩) 2 2) [sA, sB] := ⟨_, 2, rfl, Nat.le_refl _, fun _ => ⟨w.heap.size, 0, rfl, by simp, fun i x hi => by
    match i, hi with
    | 0, hi => simp at hi; subst hi; simp [sA]
    | 1, hi => simp at hi; subst hi; simp [sB]⟩, hok1⟩
  have h2 : ∀ W : World, SliceN (W.alloc (.cells #[.string ⟨#[98]⟩, .string ⟨#[99]⟩] 9)) (.slice (some ⟨W.heap.size, 0, none⟩) 2 2) [sB, sC] := fun W => ⟨_, 2, rfl, Nat.le_refl _, fun _ => ⟨W.heap.size, 0, rfl, by simp, fun i x hi => by
    match i, hi with
    | 0, hi => simp at hi; subst hi; simp [sB]
    | 1, hi => simp at hi; subst hi; simp [sC]⟩, hok2⟩
  have h2' := h2 (w.alloc (.cells #[.string ⟨#[97]⟩, .string ⟨#[98]⟩] 9))
  rw [show (w.alloc (.cells #[.string ⟨#[97]⟩, .string ⟨#[98]⟩] 9)).heap.size = w.heap.size + 1 by simp] at h2'
  refine (both_any _ _ [sA, sB] [sB, sC] _ (h1.below (belowAlloc _ _)) h2' (by decide) (by decide)).mono ?_
  rintro e w' ⟨v, rfl, hs, hb⟩
  rw [both_ex] at hs
  obtain ⟨A, c, rfl, hc, hl, -⟩ := hs
  obtain ⟨b, o, rfl, -, hcell⟩ := hl (by simp)
  have hc' : 1 ≤ c := hc
  exact ⟨b, o, c, rfl, hcell 0 _ rfl, by omega, below2 hb⟩
set_option maxRecDepth 100000 in
set_option maxHeartbeats 2000000 in
theorem alive7_any (w : World) (hm : MaxLS w) : Calls Tryd.prog 5 #[] w fun e w' => e = .returned (.bool true) ∧ Below w.heap.size w w' := by
  have H1 := Lib.hid (alive_p w hm)
  have HN1 := Lib.hid (fun W => name_any ⟨#[97, 46, 98, 58, 99]⟩ W)
  have HN2 := Lib.hid (fun W => name_any ⟨#[65]⟩ W)
  rw [show nameB (strL ⟨#[97, 46, 98, 58, 99]⟩) = true by decide +kernel] at HN1
  rw [show nameB (strL ⟨#[65]⟩) = false by decide +kernel] at HN2
  clear hm
  go_enter Tryd.func5, Tryd.ntmps5
  go_wp2_with fail
  refine H1.out.mono ?_
  rintro e w1 ⟨b, o, c, rfl, c1, hc1, hb1⟩
  have HC1 := Lib.hid c1
  have HB1 := Lib.hid hb1
  have H2 := Lib.hid (alive_b w1)
  clear c1 hb1
  go_wp2_with fail
  refine H2.out.mono ?_
  rintro e w2 ⟨b2, o2, c2, rfl, d1, hc2, hb2⟩
  have HB2 := Lib.hid (HB1.out.trans (hb2.mono HB1.out.size))
  have d2 := (hb2.cell (p := ⟨b, o, none⟩) (lt_of_cell HC1.out)).trans HC1.out
  clear hb2
  go_wp2_with (first
    | (go_at_call 10; (with_reducible refine (HN1.out _).mono ?_); rintro e w3 ⟨rfl, rfl⟩)
    | (go_at_call 10; (with_reducible refine (HN2.out _).mono ?_); rintro e w3 ⟨rfl, rfl⟩))
  go_ret
  exact ⟨rfl, HB2.out⟩
end Go.Proofs.YtapalkipdmdceaaDoor
