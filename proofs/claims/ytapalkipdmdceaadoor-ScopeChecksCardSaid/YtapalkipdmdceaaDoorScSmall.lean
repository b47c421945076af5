/- The walks of scope's small functions: mayBeIn, Name. -/
import Derived.Test.YtapalkipdmdceaaDoorScNames
import Derived.Deep.QuietTactic
import Derived.BigQuiet
import Derived.IntWalk
namespace Go.Proofs.YtapalkipdmdceaaDoor
open Go Go.RowKit

/-- A byte of a name. -/
def okB (c : Int) : Bool := decide ((97 ≤ c ∧ c ≤ 122) ∨ (48 ≤ c ∧ c ≤ 57) ∨ c = 46 ∨ c = 58 ∨ c = 95 ∨ c = 45)
/-- A name. -/
def nameB (l : List Int) : Bool := decide (1 ≤ l.length ∧ l.length ≤ 32) && l.all okB
theorem ret_bool {a b : Bool} (h : a = b) : Ending.returned (.bool a) = .returned (.bool b) := by rw [h]
theorem drop_strN (s : ByteArray) (k : Nat) (h : k < s.size) : (strL s).drop k = (s[k].toNat : Int) :: (strL s).drop (k + 1) := by
  rw [List.drop_eq_getElem_cons (by rw [length_strL]; exact h)]
  congr 1
  have := strL_get s k h
  rw [List.getD_eq_getElem?_getD, List.getElem?_eq_getElem (by rw [length_strL]; exact h)] at this
  exact this
set_option maxRecDepth 100000 in
set_option maxHeartbeats 1000000 in
theorem mayBeIn_any (c : Int) (w : World) (h0 : 0 ≤ c) (h1 : c ≤ 255) :
    Calls Tryd.prog 24 #[.int .u8 c] w fun e w' => e = .returned (.bool (okB c)) ∧ w = w' := by
  have key : ((97 ≤ c ∧ c ≤ 122) ∨ (48 ≤ c ∧ c ≤ 57) ∨ c = 46 ∨ c = 58 ∨ c = 95 ∨ c = 45) ∨ ((¬ 97 ≤ c ∨ ¬ c ≤ 122) ∧ (¬ 48 ≤ c ∨ ¬ c ≤ 57) ∧ c ≠ 46 ∧ c ≠ 58 ∧ c ≠ 95 ∧ c ≠ 45) := by omega
  rcases key with (⟨a, b⟩ | ⟨a, b⟩ | rfl | rfl | rfl | rfl) | ⟨k1, k2, e1, e2, e3, e4⟩
  · have HR : Hid (okB c = true) := Lib.hid (by simp [okB, a, b])
    go_enter Tryd.func24, Tryd.ntmps24
    go_wp2
    all_goals (go_ret; exact ⟨ret_bool HR.out.symm, rfl⟩)
  · have HR : Hid (okB c = true) := Lib.hid (by simp [okB, a, b])
    have a1 : ¬ 97 ≤ c := by omega
    go_enter Tryd.func24, Tryd.ntmps24
    go_wp2
    all_goals (go_ret; exact ⟨ret_bool HR.out.symm, rfl⟩)
  · go_enter Tryd.func24, Tryd.ntmps24
    go_wp2
    all_goals (go_ret; exact ⟨rfl, rfl⟩)
  · go_enter Tryd.func24, Tryd.ntmps24
    go_wp2
    all_goals (go_ret; exact ⟨rfl, rfl⟩)
  · go_enter Tryd.func24, Tryd.ntmps24
    go_wp2
    all_goals (go_ret; exact ⟨rfl, rfl⟩)
  · go_enter Tryd.func24, Tryd.ntmps24
    go_wp2
    all_goals (go_ret; exact ⟨rfl, rfl⟩)
  · have HR : Hid (okB c = false) := Lib.hid (by simp only [okB, decide_eq_false_iff_not]; omega)
    have q1 : (c == 46) = false := by simp [e1]
    have q2 : (c == 58) = false := by simp [e2]
    have q3 : (c == 95) = false := by simp [e3]
    have q4 : (c == 45) = false := by simp [e4]
    clear e1 e2 e3 e4
    rcases k1 with k1 | k1 <;> rcases k2 with k2 | k2
    all_goals
      go_enter Tryd.func24, Tryd.ntmps24
      go_wp2
      all_goals first | (exfalso; omega) | (go_ret; exact ⟨ret_bool HR.out.symm, rfl⟩)
theorem nameB_len {l : List Int} (h : nameB l = true) : 1 ≤ l.length ∧ l.length ≤ 32 := by
  unfold nameB at h
  rw [Bool.and_eq_true] at h
  exact of_decide_eq_true h.1
set_option maxRecDepth 100000 in
set_option maxHeartbeats 1000000 in
theorem name_any (s : ByteArray) (w : World) :
    Calls Tryd.prog 10 #[.string s] w fun e w' => e = .returned (.bool (nameB (strL s))) ∧ w = w' := by
  have HLEN := Lib.hid (length_strL s)
  by_cases h1 : s.size = 0
  · obtain rfl : s = ⟨#[]⟩ := by
      obtain ⟨d⟩ := s
      have : d.size = 0 := h1
      rw [Array.eq_empty_of_size_eq_zero this]
    go_enter Tryd.func10, Tryd.ntmps10
    go_wp2
    go_ret
    exact ⟨rfl, rfl⟩
  · have hne : (s.toList == ([] : List UInt8)) = false := by
      rw [beq_eq_false_iff_ne, ByteArray.toList_eq]
      intro e
      apply h1
      show s.data.size = 0
      rw [← Array.length_toList, e]; rfl
    have hne2 : (s.toList == (⟨#[]⟩ : ByteArray).toList) = false := by rw [show (⟨#[]⟩ : ByteArray).toList = [] by rw [ByteArray.toList_eq]]; exact hne
    by_cases h2 : s.size ≤ 32
    · have h3 : ¬ (32 : Int) < (s.size : Int) := by omega
      have hn : nameB (strL s) = (strL s).all okB := by
        unfold nameB
        rw [decide_eq_true (by rw [length_strL]; omega), Bool.true_and]
      rw [hn]
      clear hn
      go_enter Tryd.func10, Tryd.ntmps10
      go_wp2
      go_loop [13] (fun v => ∃ k : Nat, k ≤ s.size ∧ v = .int .i64 (k : Int) ∧ (strL s).all okB = ((strL s).drop k).all okB) (fun v => s.size - (intOf v).toNat)
      case atStart => exact ⟨0, Nat.zero_le _, rfl, rfl⟩
      case round =>
        obtain ⟨k, hk, rfl, hrun⟩ := hrel
        have HRUN := Lib.hid hrun
        clear hrun
        by_cases hlt : k < s.size
        · have hd := drop_strN s k hlt
          have hi0 : (0 : Int) ≤ (k : Int) := by omega
          have hcb := s[k].toNat_lt
          have HM := Lib.hid (fun W : World => mayBeIn_any (s[k].toNat : Int) W (by omega) (by omega))
          cases ho : okB (s[k].toNat : Int) with
          | false =>
            have HR : Hid ((strL s).all okB = false) := Lib.hid (by rw [HRUN.out, hd, List.all_cons, ho]; rfl)
            rw [ho] at HM
            clear hd ho hcb
            go_wp2_with (go_at_call 24; (with_reducible refine (HM.out _).mono ?_); rintro e w' ⟨rfl, rfl⟩)
            go_ret
            exact ⟨ret_bool HR.out.symm, rfl⟩
          | true =>
            have HR : Hid ((strL s).all okB = ((strL s).drop (k + 1)).all okB) := Lib.hid (by rw [HRUN.out, hd, List.all_cons, ho]; rfl)
            rw [ho] at HM
            clear hd ho hcb
            go_wp2_with (go_at_call 24; (with_reducible refine (HM.out _).mono ?_); rintro e w' ⟨rfl, rfl⟩)
            go_round
            case rel => exact ⟨k + 1, by omega, by go_num, HR.out⟩
            case measure => simp [intOf]; omega
        · obtain rfl : k = s.size := by omega
          have HR : Hid ((strL s).all okB = true) := Lib.hid (by rw [HRUN.out, List.drop_of_length_le (by rw [HLEN.out]; exact Nat.le_refl _)]; rfl)
          clear hlt
          go_wp2
          go_ret
          exact ⟨ret_bool HR.out.symm, rfl⟩
    · have h3 : (32 : Int) < (s.size : Int) := by omega
      have HR : Hid (nameB (strL s) = false) := Lib.hid (by unfold nameB; rw [decide_eq_false (by rw [length_strL]; omega), Bool.false_and])
      go_enter Tryd.func10, Tryd.ntmps10
      go_wp2
      go_ret
      exact ⟨ret_bool HR.out.symm, rfl⟩
end Go.Proofs.YtapalkipdmdceaaDoor
