/- The program's mayBeIn and Verifier; the reference's Verifier. -/
import Derived.Test.YtdgpphihjeffcaaDoorPkMath
namespace Go.Proofs.YtdgpphihjeffcaaDoor
open Go Go.RowKit

theorem mayC_classes (c : Int) (h0 : 0 ≤ c) (h1 : c ≤ 255) : (mayC c = true ∧ ((65 ≤ c ∧ c ≤ 90) ∨ (97 ≤ c ∧ c ≤ 122) ∨ (48 ≤ c ∧ c ≤ 57) ∨ c = 45 ∨ c = 46 ∨ c = 95 ∨ c = 126)) ∨
    (mayC c = false ∧ c ≠ 45 ∧ c ≠ 46 ∧ c ≠ 95 ∧ c ≠ 126 ∧ ((0 ≤ c ∧ c ≤ 47) ∨ (58 ≤ c ∧ c ≤ 64) ∨ (91 ≤ c ∧ c ≤ 96) ∨ (123 ≤ c ∧ c ≤ 255))) := by
  by_cases h : (65 ≤ c ∧ c ≤ 90) ∨ (97 ≤ c ∧ c ≤ 122) ∨ (48 ≤ c ∧ c ≤ 57) ∨ c = 45 ∨ c = 46 ∨ c = 95 ∨ c = 126
  · exact .inl ⟨decide_eq_true h, h⟩
  · exact .inr ⟨decide_eq_false h, by omega, by omega, by omega, by omega, by omega⟩
set_option maxRecDepth 100000 in
set_option maxHeartbeats 2000000 in
theorem mayBe_any (c : Int) (w : World) (h0 : 0 ≤ c) (h1 : c ≤ 255) : Calls Tryd.prog 19 #[.int .u8 c] w fun e w' => e = .returned (.bool (mayC c)) ∧ w = w' := by
  rcases mayC_classes c h0 h1 with ⟨hm, h⟩ | ⟨hm, n1, n2, n3, n4, h⟩
  · rw [hm]; clear hm
    rcases h with ⟨a, b⟩ | ⟨a, b⟩ | ⟨a, b⟩ | a | a | a | a
    · have f0 : 65 ≤ c := by omega
      have f1 : c ≤ 90 := by omega
      clear a b
      go_enter Tryd.func19, Tryd.ntmps19
      go_wp2
      go_ret
      exact ⟨rfl, rfl⟩
    · have f0 : 65 ≤ c := by omega
      have f1 : ¬ c ≤ 90 := by omega
      have f2 : 97 ≤ c := by omega
      have f3 : c ≤ 122 := by omega
      clear a b
      go_enter Tryd.func19, Tryd.ntmps19
      go_wp2
      go_ret
      exact ⟨rfl, rfl⟩
    · have f0 : ¬ 65 ≤ c := by omega
      have f1 : ¬ 97 ≤ c := by omega
      have f2 : 48 ≤ c := by omega
      have f3 : c ≤ 57 := by omega
      clear a b
      go_enter Tryd.func19, Tryd.ntmps19
      go_wp2
      go_ret
      exact ⟨rfl, rfl⟩
    · subst a
      go_enter Tryd.func19, Tryd.ntmps19
      go_wp2
      go_ret
      exact ⟨rfl, rfl⟩
    · subst a
      go_enter Tryd.func19, Tryd.ntmps19
      go_wp2
      go_ret
      exact ⟨rfl, rfl⟩
    · subst a
      go_enter Tryd.func19, Tryd.ntmps19
      go_wp2
      go_ret
      exact ⟨rfl, rfl⟩
    · subst a
      go_enter Tryd.func19, Tryd.ntmps19
      go_wp2
      go_ret
      exact ⟨rfl, rfl⟩
  · rw [hm]; clear hm
    have m1 : (c == 45) = false := by rw [beq_eq_false_iff_ne]; exact n1
    have m2 : (c == 46) = false := by rw [beq_eq_false_iff_ne]; exact n2
    have m3 : (c == 95) = false := by rw [beq_eq_false_iff_ne]; exact n3
    have m4 : (c == 126) = false := by rw [beq_eq_false_iff_ne]; exact n4
    rcases h with ⟨a, b⟩ | ⟨a, b⟩ | ⟨a, b⟩ | ⟨a, b⟩
    · have f0 : ¬ 65 ≤ c := by omega
      have f1 : ¬ 97 ≤ c := by omega
      have f2 : ¬ 48 ≤ c := by omega
      clear a b
      go_enter Tryd.func19, Tryd.ntmps19
      go_wp2
      go_ret
      exact ⟨rfl, rfl⟩
    · have f0 : ¬ 65 ≤ c := by omega
      have f1 : ¬ 97 ≤ c := by omega
      have f2 : 48 ≤ c := by omega
      have f3 : ¬ c ≤ 57 := by omega
      clear a b
      go_enter Tryd.func19, Tryd.ntmps19
      go_wp2
      go_ret
      exact ⟨rfl, rfl⟩
    · have f0 : 65 ≤ c := by omega
      have f1 : ¬ c ≤ 90 := by omega
      have f2 : ¬ 97 ≤ c := by omega
      have f3 : 48 ≤ c := by omega
      have f4 : ¬ c ≤ 57 := by omega
      clear a b
      go_enter Tryd.func19, Tryd.ntmps19
      go_wp2
      go_ret
      exact ⟨rfl, rfl⟩
    · have f0 : 65 ≤ c := by omega
      have f1 : ¬ c ≤ 90 := by omega
      have f2 : 97 ≤ c := by omega
      have f3 : ¬ c ≤ 122 := by omega
      have f4 : 48 ≤ c := by omega
      have f5 : ¬ c ≤ 57 := by omega
      clear a b
      go_enter Tryd.func19, Tryd.ntmps19
      go_wp2
      go_ret
      exact ⟨rfl, rfl⟩
theorem byte_at (s : ByteArray) (k : Nat) (h : k < s.size) : 0 ≤ (s[k].toNat : Int) ∧ (s[k].toNat : Int) ≤ 255 := by
  have := s[k].toNat_lt; omega
set_option maxRecDepth 100000 in
set_option maxHeartbeats 2000000 in
theorem ver_any (s : ByteArray) (w : World) (hs : s.size ≤ 9223372036854775807) : Calls Tryd.prog 9 #[.string s] w fun e w' => e = .returned (.bool (verL (strL s))) ∧ w = w' := by
  rcases Nat.lt_or_ge s.size 43 with h | h
  · have c1 : (s.size : Int) < 43 := by omega
    rw [verL_short (by rw [length_strL]; exact h)]
    go_enter Tryd.func9, Tryd.ntmps9
    go_wp2
    go_ret
    exact ⟨rfl, rfl⟩
  have c1 : ¬ (s.size : Int) < 43 := by omega
  rcases Nat.lt_or_ge 128 s.size with h2 | h2
  · have c2 : (128 : Int) < (s.size : Int) := by omega
    rw [verL_long (by rw [length_strL]; exact h2)]
    go_enter Tryd.func9, Tryd.ntmps9
    go_wp2
    go_ret
    exact ⟨rfl, rfl⟩
  have c2 : ¬ (128 : Int) < (s.size : Int) := by omega
  have HH := Lib.hid (And.intro h h2)
  clear h h2 hs
  go_enter Tryd.func9, Tryd.ntmps9
  go_wp2_with fail
  go_loop [14] (fun i => ∃ k : Nat, k ≤ s.size ∧ i = .int .i64 k ∧ Hid (∀ j, j < k → mayC ((strL s).getD j 0) = true)) (fun i => s.size - (intOf i).toNat)
  case atStart => exact ⟨0, by omega, rfl, Lib.hid (fun j hj => by omega)⟩
  case round =>
    obtain ⟨k, hk, rfl, HA⟩ := hrel
    by_cases hlt : k < s.size
    · have HC := Lib.hid (fun W : World => mayBe_any (s[k].toNat : Int) W (byte_at s k hlt).1 (byte_at s k hlt).2)
      obtain ⟨m, hm⟩ : ∃ m, m = mayC (s[k].toNat : Int) := ⟨_, rfl⟩
      rw [← hm] at HC
      have HM : Hid (mayC ((strL s).getD k 0) = m) := Lib.hid (by rw [strL_get s k hlt, hm])
      clear hm
      have hk2 := HH.out.2
      cases m with
      | true =>
        go_wp2_with (go_at_call 19; refine (HC.out _).mono ?_; rintro e w' ⟨rfl, rfl⟩)
        go_round
        case rel => exact ⟨k + 1, by omega, by go_num, Lib.hid (fun j hj => by
          rcases Nat.lt_or_ge j k with h | h
          · exact HA.out j h
          · rw [show j = k by omega]; exact HM.out)⟩
        case measure => simp [intOf]; omega
      | false =>
        go_wp2_with (go_at_call 19; refine (HC.out _).mono ?_; rintro e w' ⟨rfl, rfl⟩)
        go_ret
        exact ⟨by rw [verL_bad k (by rw [length_strL]; exact hlt) HM.out]; rfl, rfl⟩
    · have hks : k = s.size := by omega
      go_wp2_with fail
      go_ret
      exact ⟨by rw [verL_of (by rw [length_strL]; exact HH.out.1) (by rw [length_strL]; exact HH.out.2) (fun j hj => HA.out j (by rw [length_strL] at hj; omega))]; rfl, rfl⟩
set_option maxRecDepth 100000 in
set_option maxHeartbeats 4000000 in
theorem refVer_any (s : ByteArray) (w : World) (hs : s.size ≤ 9223372036854775807) : Calls Tryd.prog 8 #[.string s] w fun e w' => e = .returned (.bool (verL (strL s))) ∧ w = w' := by
  rcases Nat.lt_or_ge s.size 43 with h | h
  · have c1 : (s.size : Int) < 43 := by omega
    rw [verL_short (by rw [length_strL]; exact h)]
    go_enter Tryd.func8, Tryd.ntmps8
    go_wp2
    go_ret
    exact ⟨rfl, rfl⟩
  have c1 : ¬ (s.size : Int) < 43 := by omega
  rcases Nat.lt_or_ge 128 s.size with h2 | h2
  · have c2 : (128 : Int) < (s.size : Int) := by omega
    rw [verL_long (by rw [length_strL]; exact h2)]
    go_enter Tryd.func8, Tryd.ntmps8
    go_wp2
    go_ret
    exact ⟨rfl, rfl⟩
  have c2 : ¬ (128 : Int) < (s.size : Int) := by omega
  have HH := Lib.hid (And.intro h h2)
  clear h h2 hs
  go_enter Tryd.func8, Tryd.ntmps8
  go_wp2_with fail
  go_loop [3] (fun i => ∃ k : Nat, k ≤ s.size ∧ i = .int .i64 k ∧ Hid (∀ j, j < k → mayC ((strL s).getD j 0) = true)) (fun i => s.size - (intOf i).toNat)
  case atStart => exact ⟨0, by omega, rfl, Lib.hid (fun j hj => by omega)⟩
  case round =>
    obtain ⟨k, hk, rfl, HA⟩ := hrel
    by_cases hlt : k < s.size
    · have hk2 := HH.out.2
      have hcl := mayC_classes (s[k].toNat : Int) (byte_at s k hlt).1 (byte_at s k hlt).2
      rw [← strL_get s k hlt] at hcl
      rcases hcl with ⟨hm, h⟩ | ⟨hm, n1, n2, n3, n4, h⟩
      · have HM := Lib.hid hm
        have HN : Hid (∀ j, j < k + 1 → mayC ((strL s).getD j 0) = true) := Lib.hid (fun j hj => by
          rcases Nat.lt_or_ge j k with h | h
          · exact HA.out j h
          · rw [show j = k by omega]; exact HM.out)
        clear hm
        rw [strL_get s k hlt] at h
        rcases h with ⟨a, b⟩ | ⟨a, b⟩ | ⟨a, b⟩ | a | a | a | a
        · have f0 : 65 ≤ (s[k].toNat : Int) := by omega
          have f1 : (s[k].toNat : Int) ≤ 90 := by omega
          clear a b
          go_wp2
          go_round
          case rel => exact ⟨k + 1, by omega, by go_num, HN⟩
          case measure => simp [intOf]; omega
        · have f0 : 65 ≤ (s[k].toNat : Int) := by omega
          have f1 : ¬ (s[k].toNat : Int) ≤ 90 := by omega
          have f2 : 97 ≤ (s[k].toNat : Int) := by omega
          have f3 : (s[k].toNat : Int) ≤ 122 := by omega
          clear a b
          go_wp2
          go_round
          case rel => exact ⟨k + 1, by omega, by go_num, HN⟩
          case measure => simp [intOf]; omega
        · have f0 : ¬ 65 ≤ (s[k].toNat : Int) := by omega
          have f1 : ¬ 97 ≤ (s[k].toNat : Int) := by omega
          have f2 : ¬ (s[k].toNat : Int) < 48 := by omega
          have f3 : ¬ 57 < (s[k].toNat : Int) := by omega
          clear a b
          go_wp2
          go_round
          case rel => exact ⟨k + 1, by omega, by go_num, HN⟩
          case measure => simp [intOf]; omega
        · go_wp2
          go_round
          case rel => exact ⟨k + 1, by omega, by go_num, HN⟩
          case measure => simp [intOf]; omega
        · go_wp2
          go_round
          case rel => exact ⟨k + 1, by omega, by go_num, HN⟩
          case measure => simp [intOf]; omega
        · go_wp2
          go_round
          case rel => exact ⟨k + 1, by omega, by go_num, HN⟩
          case measure => simp [intOf]; omega
        · go_wp2
          go_round
          case rel => exact ⟨k + 1, by omega, by go_num, HN⟩
          case measure => simp [intOf]; omega
      · have HM := Lib.hid hm
        clear hm
        rw [strL_get s k hlt] at n1 n2 n3 n4 h
        have m1 : ((s[k].toNat : Int) != 45) = true := by simpa using n1
        have m2 : ((s[k].toNat : Int) != 46) = true := by simpa using n2
        have m3 : ((s[k].toNat : Int) != 95) = true := by simpa using n3
        have m4 : ((s[k].toNat : Int) != 126) = true := by simpa using n4
        rcases h with ⟨a, b⟩ | ⟨a, b⟩ | ⟨a, b⟩ | ⟨a, b⟩
        · have f0 : ¬ 65 ≤ (s[k].toNat : Int) := by omega
          have f1 : ¬ 97 ≤ (s[k].toNat : Int) := by omega
          have f2 : (s[k].toNat : Int) < 48 := by omega
          clear a b
          go_wp2
          go_ret
          exact ⟨by rw [verL_bad k (by rw [length_strL]; exact hlt) HM.out]; rfl, rfl⟩
        · have f0 : ¬ 65 ≤ (s[k].toNat : Int) := by omega
          have f1 : ¬ 97 ≤ (s[k].toNat : Int) := by omega
          have f2 : ¬ (s[k].toNat : Int) < 48 := by omega
          have f3 : 57 < (s[k].toNat : Int) := by omega
          clear a b
          go_wp2
          go_ret
          exact ⟨by rw [verL_bad k (by rw [length_strL]; exact hlt) HM.out]; rfl, rfl⟩
        · have f0 : 65 ≤ (s[k].toNat : Int) := by omega
          have f1 : ¬ (s[k].toNat : Int) ≤ 90 := by omega
          have f2 : ¬ 97 ≤ (s[k].toNat : Int) := by omega
          have f3 : ¬ (s[k].toNat : Int) < 48 := by omega
          have f4 : 57 < (s[k].toNat : Int) := by omega
          clear a b
          go_wp2
          go_ret
          exact ⟨by rw [verL_bad k (by rw [length_strL]; exact hlt) HM.out]; rfl, rfl⟩
        · have f0 : 65 ≤ (s[k].toNat : Int) := by omega
          have f1 : ¬ (s[k].toNat : Int) ≤ 90 := by omega
          have f2 : 97 ≤ (s[k].toNat : Int) := by omega
          have f3 : ¬ (s[k].toNat : Int) ≤ 122 := by omega
          have f4 : ¬ (s[k].toNat : Int) < 48 := by omega
          have f5 : 57 < (s[k].toNat : Int) := by omega
          clear a b
          go_wp2
          go_ret
          exact ⟨by rw [verL_bad k (by rw [length_strL]; exact hlt) HM.out]; rfl, rfl⟩
    · have hks : k = s.size := by omega
      go_wp2_with fail
      go_ret
      exact ⟨by rw [verL_of (by rw [length_strL]; exact HH.out.1) (by rw [length_strL]; exact HH.out.2) (fun j hj => HA.out j (by rw [length_strL] at hj; omega))]; rfl, rfl⟩
end Go.Proofs.YtdgpphihjeffcaaDoor
