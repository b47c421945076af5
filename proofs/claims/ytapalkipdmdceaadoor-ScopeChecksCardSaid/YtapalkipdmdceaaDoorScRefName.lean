/- The reference's Name. -/
import Derived.Test.YtapalkipdmdceaaDoorScSmall
import Derived.Test.YtapalkipdmdceaaDoorScRef
namespace Go.Proofs.YtapalkipdmdceaaDoor
open Go Go.RowKit

set_option maxRecDepth 100000 in
set_option maxHeartbeats 4000000 in
theorem refName_any (s : ByteArray) (w : World) :
    Calls Tryd.prog 11 #[.string s] w fun e w' => e = .returned (.bool (nameB (strL s))) ∧ w = w' := by
  have HLEN := Lib.hid (length_strL s)
  by_cases h1 : s.size < 1
  · have h1I : (s.size : Int) < 1 := by omega
    have HR : Hid (nameB (strL s) = false) := Lib.hid (by unfold nameB; rw [decide_eq_false (by rw [length_strL]; omega), Bool.false_and])
    clear h1
    go_enter Tryd.func11, Tryd.ntmps11
    go_wp2
    go_ret
    exact ⟨ret_bool HR.out.symm, rfl⟩
  · have h1I : ¬ (s.size : Int) < 1 := by omega
    by_cases h2 : s.size ≤ 32
    · have h3 : ¬ (32 : Int) < (s.size : Int) := by omega
      have HN : Hid (nameB (strL s) = (strL s).all okB) := Lib.hid (by
        unfold nameB
        rw [decide_eq_true (by rw [length_strL]; omega), Bool.true_and])
      rw [HN.out]
      go_enter Tryd.func11, Tryd.ntmps11
      go_wp2
      go_loop [3] (fun v => ∃ k : Nat, k ≤ s.size ∧ v = .int .i64 (k : Int) ∧ (strL s).all okB = ((strL s).drop k).all okB) (fun v => s.size - (intOf v).toNat)
      case atStart => exact ⟨0, Nat.zero_le _, rfl, rfl⟩
      case round =>
        obtain ⟨k, hk, rfl, hrun⟩ := hrel
        have HRUN := Lib.hid hrun
        clear hrun h1 h1I h3 HN
        by_cases hlt : k < s.size
        · have hd := drop_strN s k hlt
          have hi0 : (0 : Int) ≤ (k : Int) := by omega
          have hcb := s[k].toNat_lt
          have HSTEP : Hid ((strL s).all okB = (okB (s[k].toNat : Int) && ((strL s).drop (k + 1)).all okB)) := Lib.hid (by rw [HRUN.out, hd, List.all_cons])
          clear hd
          have key : (((97 ≤ (s[k].toNat : Int) ∧ (s[k].toNat : Int) ≤ 122) ∨ (48 ≤ (s[k].toNat : Int) ∧ (s[k].toNat : Int) ≤ 57) ∨ (s[k].toNat : Int) = 46 ∨ (s[k].toNat : Int) = 58 ∨ (s[k].toNat : Int) = 95 ∨ (s[k].toNat : Int) = 45)) ∨ ((¬ 97 ≤ (s[k].toNat : Int) ∨ ¬ (s[k].toNat : Int) ≤ 122) ∧ (¬ 48 ≤ (s[k].toNat : Int) ∨ ¬ (s[k].toNat : Int) ≤ 57) ∧ (s[k].toNat : Int) ≠ 46 ∧ (s[k].toNat : Int) ≠ 58 ∧ (s[k].toNat : Int) ≠ 95 ∧ (s[k].toNat : Int) ≠ 45) := by omega
          rcases key with hyes | ⟨k1, k2, e1, e2, e3, e4⟩
          · have HR : Hid ((strL s).all okB = ((strL s).drop (k + 1)).all okB) := Lib.hid (by rw [HSTEP.out]; unfold okB; rw [decide_eq_true hyes, Bool.true_and])
            clear HSTEP
            rcases hyes with ⟨a, b⟩ | ⟨a, b⟩ | a | a | a | a
            · go_wp2
              go_round
              case rel => exact ⟨k + 1, by omega, by go_num, HR.out⟩
              case measure => simp [intOf]; omega
            · have a1 : ¬ 97 ≤ (s[k].toNat : Int) := by omega
              go_wp2
              go_round
              case rel => exact ⟨k + 1, by omega, by go_num, HR.out⟩
              case measure => simp [intOf]; omega
            · have q : ((s[k].toNat : Int) == 46) = true := by simp [a]
              have qn : ((s[k].toNat : Int) != 46) = false := by rw [bne, q]; rfl
              have a1 : ¬ 97 ≤ (s[k].toNat : Int) := by omega
              have a2 : ¬ 48 ≤ (s[k].toNat : Int) := by omega
              clear a
              go_wp2
              go_round
              case rel => exact ⟨k + 1, by omega, by go_num, HR.out⟩
              case measure => simp [intOf]; omega
            · have q : ((s[k].toNat : Int) == 58) = true := by simp [a]
              have qn : ((s[k].toNat : Int) != 58) = false := by rw [bne, q]; rfl
              have q1 : ((s[k].toNat : Int) == 46) = false := by simp [a]
              have q1n : ((s[k].toNat : Int) != 46) = true := by rw [bne, q1]; rfl
              have a1 : ¬ 97 ≤ (s[k].toNat : Int) := by omega
              have a2 : 48 ≤ (s[k].toNat : Int) := by omega
              have a3 : ¬ (s[k].toNat : Int) ≤ 57 := by omega
              clear a
              go_wp2
              go_round
              case rel => exact ⟨k + 1, by omega, by go_num, HR.out⟩
              case measure => simp [intOf]; omega
            · have q : ((s[k].toNat : Int) == 95) = true := by simp [a]
              have qn : ((s[k].toNat : Int) != 95) = false := by rw [bne, q]; rfl
              have q1 : ((s[k].toNat : Int) == 46) = false := by simp [a]
              have q1n : ((s[k].toNat : Int) != 46) = true := by rw [bne, q1]; rfl
              have q2 : ((s[k].toNat : Int) == 58) = false := by simp [a]
              have q2n : ((s[k].toNat : Int) != 58) = true := by rw [bne, q2]; rfl
              have a1 : ¬ 97 ≤ (s[k].toNat : Int) := by omega
              have a2 : 48 ≤ (s[k].toNat : Int) := by omega
              have a3 : ¬ (s[k].toNat : Int) ≤ 57 := by omega
              clear a
              go_wp2
              go_round
              case rel => exact ⟨k + 1, by omega, by go_num, HR.out⟩
              case measure => simp [intOf]; omega
            · have q : ((s[k].toNat : Int) == 45) = true := by simp [a]
              have qn : ((s[k].toNat : Int) != 45) = false := by rw [bne, q]; rfl
              have q1 : ((s[k].toNat : Int) == 46) = false := by simp [a]
              have q1n : ((s[k].toNat : Int) != 46) = true := by rw [bne, q1]; rfl
              have q2 : ((s[k].toNat : Int) == 58) = false := by simp [a]
              have q2n : ((s[k].toNat : Int) != 58) = true := by rw [bne, q2]; rfl
              have q3 : ((s[k].toNat : Int) == 95) = false := by simp [a]
              have q3n : ((s[k].toNat : Int) != 95) = true := by rw [bne, q3]; rfl
              have a1 : ¬ 97 ≤ (s[k].toNat : Int) := by omega
              have a2 : ¬ 48 ≤ (s[k].toNat : Int) := by omega
              clear a
              go_wp2
              go_round
              case rel => exact ⟨k + 1, by omega, by go_num, HR.out⟩
              case measure => simp [intOf]; omega
          · have HR : Hid ((strL s).all okB = false) := Lib.hid (by
              rw [HSTEP.out]; unfold okB; rw [decide_eq_false (by omega), Bool.false_and])
            have q1 : ((s[k].toNat : Int) == 46) = false := by simp [e1]
            have q1n : ((s[k].toNat : Int) != 46) = true := by rw [bne, q1]; rfl
            have q2 : ((s[k].toNat : Int) == 58) = false := by simp [e2]
            have q2n : ((s[k].toNat : Int) != 58) = true := by rw [bne, q2]; rfl
            have q3 : ((s[k].toNat : Int) == 95) = false := by simp [e3]
            have q3n : ((s[k].toNat : Int) != 95) = true := by rw [bne, q3]; rfl
            have q4 : ((s[k].toNat : Int) == 45) = false := by simp [e4]
            have q4n : ((s[k].toNat : Int) != 45) = true := by rw [bne, q4]; rfl
            clear HSTEP e1 e2 e3 e4
            rcases k1 with k1 | k1
            · rcases k2 with k2 | k2
              · go_wp2
                go_ret
                exact ⟨ret_bool HR.out.symm, rfl⟩
              · have k3 : 48 ≤ (s[k].toNat : Int) := by omega
                go_wp2
                go_ret
                exact ⟨ret_bool HR.out.symm, rfl⟩
            · have k3 : 97 ≤ (s[k].toNat : Int) := by omega
              have k4 : 48 ≤ (s[k].toNat : Int) := by omega
              have k5 : ¬ (s[k].toNat : Int) ≤ 57 := by omega
              clear k2
              go_wp2
              go_ret
              exact ⟨ret_bool HR.out.symm, rfl⟩
        · obtain rfl : k = s.size := by omega
          have HR : Hid ((strL s).all okB = true) := Lib.hid (by rw [HRUN.out, List.drop_of_length_le (by rw [HLEN.out]; exact Nat.le_refl _)]; rfl)
          clear hlt
          go_wp2
          go_ret
          exact ⟨ret_bool HR.out.symm, rfl⟩
    · have h3 : (32 : Int) < (s.size : Int) := by omega
      have HR : Hid (nameB (strL s) = false) := Lib.hid (by unfold nameB; rw [decide_eq_false (by rw [length_strL]; omega), Bool.false_and])
      clear h1 h2
      go_enter Tryd.func11, Tryd.ntmps11
      go_wp2
      go_ret
      exact ⟨ret_bool HR.out.symm, rfl⟩
end Go.Proofs.YtapalkipdmdceaaDoor
