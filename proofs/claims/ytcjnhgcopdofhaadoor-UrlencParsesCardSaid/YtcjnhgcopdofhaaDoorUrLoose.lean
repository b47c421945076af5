/- The walks of urlenc's isSpelled and looseByteSign. -/
import Derived.Test.YtcjnhgcopdofhaaDoorUrSmall
namespace Go.Proofs.YtcjnhgcopdofhaaDoor
open Go Go.RowKit

theorem cons3 {l : List Int} (h : 3 ≤ l.length) : l = l.getD 0 0 :: l.getD 1 0 :: l.getD 2 0 :: l.drop 3 := by
  match l, h with
  | a :: b :: c :: r, _ => rfl
theorem spelt_str (s : ByteArray) (h : 3 ≤ s.size) : spelt (strL s) = decide ((s[0].toNat : Int) = 37 ∧ hexW (s[1].toNat : Int) ≠ -1 ∧ hexW (s[2].toNat : Int) ≠ -1) := by
  have hl := length_strL s
  rw [cons3 (l := strL s) (by omega), spelt, strL_get s 0 (by omega), strL_get s 1 (by omega), strL_get s 2 (by omega)]
theorem spelt_short {l : List Int} (h : l.length < 3) : spelt l = false := by
  match l, h with
  | [], _ => rfl
  | [_], _ => rfl
  | [_, _], _ => rfl
  | _ :: _ :: _ :: _, h => simp at h; omega
set_option maxRecDepth 100000 in
set_option maxHeartbeats 1000000 in
theorem isSpelled_any (s : ByteArray) (w : World) (hs : s.size ≤ 9223372036854775807) :
    Calls Tryd.prog 46 #[.string s] w fun e w' => e = .returned (.bool (spelt (strL s))) ∧ w = w' := by
  by_cases h3 : 3 ≤ s.size
  · have hsp := spelt_str s h3
    have b0 := UInt8.toNat_lt s[0]
    have b1 := UInt8.toNat_lt s[1]
    have b2 := UInt8.toNat_lt s[2]
    have H1 := Lib.hid (fun W : World => uWorth_any (s[1].toNat : Int) W (by omega) (by omega))
    have H2 := Lib.hid (fun W : World => uWorth_any (s[2].toNat : Int) W (by omega) (by omega))
    have i0 : 0 < s.size := by omega
    have i1 : 1 < s.size := by omega
    have i2 : 2 < s.size := by omega
    have g3 : (3 : Int) ≤ (s.size : Int) := by omega
    by_cases c0 : (s[0].toNat : Int) = 37
    · have q0 : ((s[0].toNat : Int) == 37) = true := by simp [c0]
      by_cases c1 : hexW (s[1].toNat : Int) = -1
      · have HR : Hid (spelt (strL s) = false) := Lib.hid (by rw [hsp]; simp [c1])
        have q1 : (hexW (s[1].toNat : Int) != -1) = false := by simp [c1]
        clear hsp c0 c1
        go_enter Tryd.func46, Tryd.ntmps46
        go_wp2_with (go_at_call 48; (with_reducible refine (H1.out _).mono ?_); rintro e w' ⟨rfl, rfl⟩)
        go_ret
        rw [HR.out]; exact ⟨rfl, rfl⟩
      · by_cases c2 : hexW (s[2].toNat : Int) = -1
        · have HR : Hid (spelt (strL s) = false) := Lib.hid (by rw [hsp]; simp [c2])
          have q1 : (hexW (s[1].toNat : Int) != -1) = true := by simp [c1]
          have q2 : (hexW (s[2].toNat : Int) != -1) = false := by simp [c2]
          clear hsp c0 c1 c2
          go_enter Tryd.func46, Tryd.ntmps46
          go_wp2_with (first
            | (go_at_call 48; (with_reducible refine (H1.out _).mono ?_); rintro e w' ⟨rfl, rfl⟩)
            | (go_at_call 48; (with_reducible refine (H2.out _).mono ?_); rintro e w' ⟨rfl, rfl⟩))
          go_ret
          rw [HR.out]; exact ⟨rfl, rfl⟩
        · have HR : Hid (spelt (strL s) = true) := Lib.hid (by rw [hsp]; simp [c0, c1, c2])
          have q1 : (hexW (s[1].toNat : Int) != -1) = true := by simp [c1]
          have q2 : (hexW (s[2].toNat : Int) != -1) = true := by simp [c2]
          clear hsp c0 c1 c2
          go_enter Tryd.func46, Tryd.ntmps46
          go_wp2_with (first
            | (go_at_call 48; (with_reducible refine (H1.out _).mono ?_); rintro e w' ⟨rfl, rfl⟩)
            | (go_at_call 48; (with_reducible refine (H2.out _).mono ?_); rintro e w' ⟨rfl, rfl⟩))
          go_ret
          rw [HR.out]; exact ⟨rfl, rfl⟩
    · have HR : Hid (spelt (strL s) = false) := Lib.hid (by rw [hsp]; simp [c0])
      have q0 : ((s[0].toNat : Int) == 37) = false := by simp [c0]
      clear hsp c0
      go_enter Tryd.func46, Tryd.ntmps46
      go_wp2
      go_ret
      rw [HR.out]; exact ⟨rfl, rfl⟩
  · have HR : Hid (spelt (strL s) = false) := Lib.hid (spelt_short (by rw [length_strL]; omega))
    have g3 : ¬ (3 : Int) ≤ (s.size : Int) := by omega
    clear h3
    go_enter Tryd.func46, Tryd.ntmps46
    go_wp2
    go_ret
    rw [HR.out]; exact ⟨rfl, rfl⟩

/-! ### looseByteSign -/
theorem strL_tail (s : ByteArray) (k : Nat) : strL (s.extract k s.size) = (strL s).drop k := by
  rw [strL_extract, List.take_of_length_le (by rw [length_strL]; exact Nat.le_refl _)]
theorem drop_str (s : ByteArray) (k : Nat) (h : k < s.size) : (strL s).drop k = (s[k].toNat : Int) :: (strL s).drop (k + 1) := by
  rw [List.drop_eq_getElem_cons (by rw [length_strL]; exact h)]
  congr 1
  have := strL_get s k h
  rw [List.getD_eq_getElem?_getD, List.getElem?_eq_getElem (by rw [length_strL]; exact h)] at this
  exact this
theorem loose_stop {c : Int} {r : List Int} (hc : c = 37) (h : spelt (c :: r) = false) : looseL (c :: r) = 0 := by rw [looseL, if_pos ⟨hc, h⟩]
theorem loose_go {c : Int} {r : List Int} (h : ¬ (c = 37 ∧ spelt (c :: r) = false)) : looseL (c :: r) = looseL r + 1 := by rw [looseL, if_neg h]
set_option maxRecDepth 100000 in
set_option maxHeartbeats 1000000 in
theorem loose_any (s : ByteArray) (w : World) (hs : s.size ≤ 1000000000) :
    Calls Tryd.prog 29 #[.string s] w fun e w' => e = .returned (.int .i64 (looseL (strL s) : Int)) ∧ w = w' := by
  have HLEN := Lib.hid (length_strL s)
  go_enter Tryd.func29, Tryd.ntmps29
  go_wp2
  go_loop [6] (fun v => ∃ k : Nat, k ≤ s.size ∧ v = .int .i64 (k : Int) ∧ looseL (strL s) = k + looseL ((strL s).drop k)) (fun v => s.size - (intOf v).toNat)
  case atStart => exact ⟨0, Nat.zero_le _, rfl, by simp⟩
  case round =>
    obtain ⟨k, hk, rfl, hrun⟩ := hrel
    have HRUN := Lib.hid hrun
    clear hrun
    by_cases hlt : k < s.size
    · have hd := drop_str s k hlt
      have HIS := Lib.hid (fun W : World => isSpelled_any (s.extract k s.size) W (by rw [ByteArray.size_extract]; omega))
      rw [strL_tail] at HIS
      have hi0 : (0 : Int) ≤ (k : Int) := by omega
      by_cases hc : (s[k].toNat : Int) = 37
      · have q0 : ((s[k].toNat : Int) == 37) = true := by simp [hc]
        cases hsp : spelt ((strL s).drop k) with
        | false =>
          have HR : Hid (looseL (strL s) = k) := Lib.hid (by rw [HRUN.out, hd, loose_stop hc (hd ▸ hsp)]; rfl)
          rw [hsp] at HIS
          clear hd hc hsp
          go_wp2_with (go_at_call 46; (with_reducible refine (HIS.out _).mono ?_); rintro e w' ⟨rfl, rfl⟩)
          go_ret
          rw [HR.out]; exact ⟨rfl, rfl⟩
        | true =>
          have HR : Hid (looseL (strL s) = k + 1 + looseL ((strL s).drop (k + 1))) := Lib.hid (by rw [HRUN.out, hd, loose_go (by rw [← hd, hsp]; simp)]; omega)
          rw [hsp] at HIS
          clear hd hc hsp
          go_wp2_with (go_at_call 46; (with_reducible refine (HIS.out _).mono ?_); rintro e w' ⟨rfl, rfl⟩)
          go_round
          case rel => exact ⟨k + 1, by omega, by go_num, HR.out⟩
          case measure => simp [intOf]; omega
      · have q0 : ((s[k].toNat : Int) == 37) = false := by simp [hc]
        have HR : Hid (looseL (strL s) = k + 1 + looseL ((strL s).drop (k + 1))) := Lib.hid (by rw [HRUN.out, hd, loose_go (fun h => hc h.1)]; omega)
        clear hd hc
        go_wp2
        go_round
        case rel => exact ⟨k + 1, by omega, by go_num, HR.out⟩
        case measure => simp [intOf]; omega
    · obtain rfl : k = s.size := by omega
      have HR : Hid (looseL (strL s) = s.size) := Lib.hid (by rw [HRUN.out, List.drop_of_length_le (by rw [HLEN.out]; exact Nat.le_refl _)]; rfl)
      clear hlt
      go_wp2
      go_ret
      rw [HR.out]; exact ⟨rfl, rfl⟩
end Go.Proofs.YtcjnhgcopdofhaaDoor
