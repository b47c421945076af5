/- The walks of dec's parts, countDigits, belowZero and Lead. -/
import Derived.Test.YtkelioafnobolaaDoorDecRefRead
namespace Go.Proofs.YtkelioafnobolaaDoor
open Go Go.RowKit

/-- Does it begin with - ? -/
def dashB (s : ByteArray) : Bool := decide ((strL s).getD 0 0 = 45)
set_option maxRecDepth 100000 in
theorem hasDash_any (s : ByteArray) (w : World) (hs : s.size ≤ 9223372036854775807) :
    Calls Tryd.prog 32 #[.string s, .string ⟨#[45]⟩] w fun e w' => e = .returned (.bool (dashB s)) ∧ w = w' := by
  have hlen := length_strL s
  by_cases h1 : 1 ≤ s.size
  · have hge : (1 : Int) ≤ (s.size : Int) := by omega
    have he : ((s.extract 0 1).toList == [45]) = dashB s := by
      rw [show ([45] : List UInt8) = (⟨#[45]⟩ : ByteArray).toList by rw [ByteArray.toList_eq], eq_toList, dashB]
      have : s.extract 0 1 = ⟨#[45]⟩ ↔ (strL s).getD 0 0 = 45 := by
        constructor
        · intro h
          have := congrArg strL h
          rw [strL_extract] at this
          cases hl : strL s with
          | nil => rw [hl] at hlen; simp at hlen; omega
          | cons c r =>
            rw [hl] at this
            simpa [strL] using this
        · intro h
          apply strL_inj
          rw [strL_extract]
          cases hl : strL s with
          | nil => rw [hl] at hlen; simp at hlen; omega
          | cons c r =>
            rw [hl] at h
            rw [List.getD_cons_zero] at h
            subst h
            simp [strL]
      exact decide_eq_decide.2 this
    obtain ⟨B, hB⟩ : ∃ B, B = dashB s := ⟨_, rfl⟩
    rw [← hB] at he ⊢
    clear hB hlen
    go_enter Tryd.func32, Tryd.ntmps32
    go_wp2
    go_ret
    exact ⟨rfl, rfl⟩
  · have hge : ¬ (1 : Int) ≤ (s.size : Int) := by omega
    have hd : Hid (dashB s = false) := Lib.hid (by
      unfold dashB
      rw [List.eq_nil_of_length_eq_zero (hlen.trans (by omega))]; rfl)
    clear hlen
    go_enter Tryd.func32, Tryd.ntmps32
    go_wp2
    go_ret
    rw [hd.out]
    exact ⟨rfl, rfl⟩
/-- What stands behind a sign. -/
def restS (s : ByteArray) : ByteArray := if dashB s = true then s.extract 1 s.size else s
theorem dash_size {s : ByteArray} (h : dashB s = true) : 1 ≤ s.size := by
  unfold dashB at h
  rw [decide_eq_true_eq] at h
  rw [← length_strL]
  cases hl : strL s with
  | nil => rw [hl] at h; simp at h
  | cons c r => simp
set_option maxRecDepth 100000 in
theorem cutDash_any (s : ByteArray) (w : World) (hs : s.size ≤ 9223372036854775807) :
    Calls Tryd.prog 31 #[.string s, .string ⟨#[45]⟩] w fun e w' => e = .returned (.tuple #[.string (restS s), .bool (dashB s)]) ∧ w = w' := by
  have HP := Lib.hid (hasDash_any s w hs)
  cases hd : dashB s with
  | true =>
    rw [hd] at HP
    have hge : (1 : Int) ≤ (s.size : Int) := by have := dash_size hd; omega
    have HR : Hid (restS s = s.extract 1 s.size) := Lib.hid (by unfold restS; rw [if_pos hd])
    clear hd
    go_enter Tryd.func31, Tryd.ntmps31
    go_wp2_with (go_at_call 32; refine HP.out.mono ?_; rintro e w' ⟨rfl, rfl⟩)
    go_ret2
    rw [HR.out]
    exact ⟨rfl, rfl⟩
  | false =>
    rw [hd] at HP
    have HR : Hid (restS s = s) := Lib.hid (by unfold restS; rw [if_neg (by rw [hd]; decide)])
    clear hd
    go_enter Tryd.func31, Tryd.ntmps31
    go_wp2_with (go_at_call 32; refine HP.out.mono ?_; rintro e w' ⟨rfl, rfl⟩)
    go_ret2
    rw [HR.out]
    exact ⟨rfl, rfl⟩
set_option maxRecDepth 100000 in
theorem cutDash2_any (s : ByteArray) (w : World) (hs : s.size ≤ 9223372036854775807) :
    Calls Tryd.prog 27 #[.string s, .string ⟨#[45]⟩] w fun e w' => e = .returned (.tuple #[.string (restS s), .bool (dashB s)]) ∧ w = w' := by
  have HP := Lib.hid (cutDash_any s w hs)
  go_enter Tryd.func27, Tryd.ntmps27
  go_wp2_with (go_at_call 31; refine HP.out.mono ?_; rintro e w' ⟨rfl, rfl⟩)
  go_ret2
  exact ⟨rfl, rfl⟩
set_option maxRecDepth 100000 in
theorem parts_any (s : ByteArray) (w : World) (hs : s.size ≤ 9223372036854775807) :
    Calls Tryd.prog 21 #[.string s] w fun e w' => e = .returned (.tuple #[.bool (dashB s), .string (restS s)]) ∧ w = w' := by
  have HP := Lib.hid (cutDash2_any s w hs)
  go_enter Tryd.func21, Tryd.ntmps21
  go_wp2_with (go_at_call 27; refine HP.out.mono ?_; rintro e w' ⟨rfl, rfl⟩)
  go_ret2
  exact ⟨rfl, rfl⟩
set_option maxRecDepth 100000 in
theorem belowZero_any (n : Int) (w : World) (h0 : -9223372036854775808 ≤ n) (h1 : n ≤ 9223372036854775807) :
    Calls Tryd.prog 16 #[.int .i64 n] w fun e w' => e = .returned (.int .i64 (-(n.natAbs : Int))) ∧ w = w' := by
  by_cases h : 0 < n
  · have HR : Hid (-(n.natAbs : Int) = -n) := Lib.hid (by omega)
    go_enter Tryd.func16, Tryd.ntmps16
    go_wp2
    go_ret
    rw [HR.out]
    exact ⟨rfl, rfl⟩
  · have HR : Hid (-(n.natAbs : Int) = n) := Lib.hid (by omega)
    go_enter Tryd.func16, Tryd.ntmps16
    go_wp2
    go_ret
    rw [HR.out]
    exact ⟨rfl, rfl⟩

/-! ### countDigits -/
theorem runL_eq : ∀ {l : List Int} {k : Nat}, k ≤ l.length → (∀ j, j < k → 48 ≤ l.getD j 0 ∧ l.getD j 0 ≤ 57) → (k < l.length → ¬ (48 ≤ l.getD k 0 ∧ l.getD k 0 ≤ 57)) → runL l = k
  | [], k, hk, _, _ => by simp at hk; subst hk; rfl
  | c :: r, 0, _, _, h => by
    have := h (by simp)
    rw [List.getD_cons_zero] at this
    rw [runL, if_neg (by rw [isD_iff]; exact this)]
  | c :: r, k + 1, hk, ha, h => by
    have h0 := ha 0 (by omega)
    rw [List.getD_cons_zero] at h0
    rw [runL, if_pos (isD_iff.2 h0), runL_eq (l := r) (k := k) (by simpa using hk) (fun j hj => by
      have := ha (j + 1) (by omega)
      rwa [List.getD_cons_succ] at this) (fun hlt => by
      have := h (by simpa using hlt)
      rwa [List.getD_cons_succ] at this)]
set_option maxRecDepth 100000 in
set_option maxHeartbeats 1000000 in
theorem countDigits_any (s : ByteArray) (w : World) (hs : s.size ≤ 9223372036854775807) :
    Calls Tryd.prog 22 #[.string s] w fun e w' => e = .returned (.int .i64 (runL (strL s) : Int)) ∧ w = w' := by
  have HL := Lib.hid (length_strL s)
  go_enter Tryd.func22, Tryd.ntmps22
  go_wp2
  go_loop [6] (fun i => ∃ k : Nat, k ≤ s.size ∧ i = .int .i64 (k : Int) ∧ ∀ j, j < k → 48 ≤ (strL s).getD j 0 ∧ (strL s).getD j 0 ≤ 57) (fun i => s.size - (intOf i).toNat)
  case atStart => exact ⟨0, by omega, rfl, fun j hj => by omega⟩
  case round =>
    obtain ⟨k, hk, rfl, hall⟩ := hrel
    have HA := Lib.hid hall
    clear hall
    by_cases hlt : k < s.size
    · have HG := Lib.hid (strL_get s k hlt)
      by_cases hd : 48 ≤ (strL s).getD k 0 ∧ (strL s).getD k 0 ≤ 57
      · obtain ⟨hd1, hd2⟩ := hd
        have HD := Lib.hid (And.intro hd1 hd2)
        rw [HG.out] at hd1 hd2
        go_wp2
        go_round
        case rel => exact ⟨k + 1, by omega, by go_num, fun j hj => by
          rcases Nat.lt_or_ge j k with h | h
          · exact HA.out j h
          · obtain rfl : j = k := by omega
            exact HD.out⟩
        case measure => simp [intOf]; omega
      · have HR : Hid (runL (strL s) = k) := Lib.hid (runL_eq (by rw [HL.out]; exact hk) HA.out (fun _ => hd))
        rw [HG.out] at hd
        by_cases hd1 : ((s[k]'hlt).toNat : Int) < 48
        · clear hd
          go_wp2
          go_ret
          rw [HR.out]
          exact ⟨rfl, rfl⟩
        · have hd2 : 57 < ((s[k]'hlt).toNat : Int) := by omega
          clear hd
          go_wp2
          go_ret
          rw [HR.out]
          exact ⟨rfl, rfl⟩
    · obtain rfl : k = s.size := by omega
      have HR : Hid (runL (strL s) = s.size) := Lib.hid (runL_eq (by rw [HL.out]; exact Nat.le_refl _) HA.out (fun h => by rw [HL.out] at h; omega))
      go_wp2
      go_ret
      rw [HR.out]
      exact ⟨rfl, rfl⟩

/-! ### Lead -/
theorem restL (s : ByteArray) : strL (restS s) = if dashB s = true then (strL s).drop 1 else strL s := by
  unfold restS
  split
  · rw [strL_extract, List.take_of_length_le (by rw [length_strL]; exact Nat.le_refl _)]
  · rfl
theorem restS_size (s : ByteArray) : (restS s).size ≤ s.size := by
  rw [← length_strL, ← length_strL, restL]
  split
  · rw [List.length_drop]; omega
  · exact Nat.le_refl _
theorem runL_first {l : List Int} (h : 0 < runL l) : 48 ≤ l.getD 0 0 ∧ l.getD 0 0 ≤ 57 := isD_iff.1 (runL_digit l 0 h)
theorem runL_none {l : List Int} (h : runL l = 0) : ¬ (48 ≤ l.getD 0 0 ∧ l.getD 0 0 ≤ 57) := fun hc => by
  cases l with
  | nil => simp at hc
  | cons c r => rw [List.getD_cons_zero] at hc; rw [runL, if_pos (isD_iff.2 hc)] at h; omega
theorem dash_cons {s : ByteArray} (h : dashB s = true) : strL s = 45 :: (strL s).drop 1 := by
  unfold dashB at h
  rw [decide_eq_true_eq] at h
  cases hl : strL s with
  | nil => rw [hl] at h; simp at h
  | cons c r => rw [hl] at h; rw [List.getD_cons_zero] at h; rw [h]; rfl
theorem lead_dash {s : ByteArray} (h : dashB s = true) : leadL (strL s) = if 0 < runL (strL (restS s)) ∧ (strL (restS s)).getD 0 0 ≠ 48 then runL (strL (restS s)) + 1 else 0 := by
  rw [restL, if_pos h, dash_cons h, List.drop_succ_cons, List.drop_zero, leadL, if_pos rfl]
  obtain ⟨r, hr⟩ : ∃ r, r = (strL s).drop 1 := ⟨_, rfl⟩
  rw [← hr]
  by_cases h0 : 0 < runL r
  · have := runL_first h0
    by_cases h48 : r.getD 0 0 = 48
    · rw [if_neg (by omega), if_neg (by omega)]
    · rw [if_pos (by omega), if_pos ⟨h0, h48⟩]
  · have := runL_none (l := r) (by omega)
    rw [if_neg (by omega), if_neg (by omega)]
theorem lead_plain {s : ByteArray} (h : dashB s = false) : leadL (strL s) = if 0 < runL (strL (restS s)) ∧ (strL (restS s)).getD 0 0 = 48 then 1 else runL (strL (restS s)) := by
  rw [show strL (restS s) = strL s by rw [restL, h]; rfl]
  unfold dashB at h
  rw [decide_eq_false_iff_not] at h
  obtain ⟨l, hl⟩ : ∃ l, l = strL s := ⟨_, rfl⟩
  rw [← hl] at h ⊢
  cases l with
  | nil => rfl
  | cons c r =>
    rw [List.getD_cons_zero] at h ⊢
    rw [leadL, if_neg h]
    by_cases h48 : c = 48
    · have : 0 < runL (c :: r) := by rw [runL, if_pos (isD_iff.2 (by omega))]; omega
      rw [if_pos h48, if_pos ⟨this, h48⟩]
    · rw [if_neg h48, if_neg (by omega)]
set_option maxRecDepth 100000 in
set_option maxHeartbeats 1000000 in
theorem lead_any (s : ByteArray) (w : World) (hs : s.size ≤ 300) :
    Calls Tryd.prog 14 #[.string s] w fun e w' => e = .returned (.int .i64 (leadL (strL s) : Int)) ∧ Below w.heap.size w w' := by
  have hrs := restS_size s
  have HP := Lib.hid (parts_any s w (by omega))
  have HC := Lib.hid (countDigits_any (restS s) w (by omega))
  have HL : Hid (dashB s = true → leadL (strL s) = if 0 < runL (strL (restS s)) ∧ (strL (restS s)).getD 0 0 ≠ 48 then runL (strL (restS s)) + 1 else 0) := Lib.hid lead_dash
  have HL2 : Hid (dashB s = false → leadL (strL s) = if 0 < runL (strL (restS s)) ∧ (strL (restS s)).getD 0 0 = 48 then 1 else runL (strL (restS s))) := Lib.hid lead_plain
  have hrl := runL_le (strL (restS s))
  rw [length_strL] at hrl
  obtain ⟨T, hT⟩ : ∃ T, T = restS s := ⟨_, rfl⟩
  obtain ⟨m, hm⟩ : ∃ m, m = leadL (strL s) := ⟨_, rfl⟩
  rw [← hT] at HP HC HL HL2 hrs hrl
  rw [← hm] at HL HL2 ⊢
  have HG : Hid (∀ h : 0 < T.size, (strL T).getD 0 0 = ((T[0]'h).toNat : Int)) := Lib.hid (fun h => strL_get T 0 h)
  obtain ⟨n, hn⟩ : ∃ n, n = runL (strL T) := ⟨_, rfl⟩
  rw [← hn] at HC HL HL2 hrl
  clear hm hT hn
  by_cases h0 : 0 < n
  · have hz : 0 < T.size := by omega
    have hb : ((n : Int) == 0) = false := by rw [beq_eq_false_iff_ne]; omega
    by_cases h48 : ((T[0]'hz).toNat : Int) = 48
    · have hc : (((T[0]'hz).toNat : Int) == 48) = true := by rw [beq_iff_eq]; exact h48
      cases hd : dashB s with
      | true =>
        rw [hd] at HP
        have HR : Hid (m = 0) := Lib.hid (by rw [HL.out hd, if_neg (by rw [HG.out hz]; omega)])
        clear hd h48
        go_enter Tryd.func14, Tryd.ntmps14
        go_wp2_with (first
          | (go_at_call 21; refine HP.out.mono ?_; rintro e w' ⟨rfl, rfl⟩)
          | (go_at_call 22; refine HC.out.mono ?_; rintro e w' ⟨rfl, rfl⟩))
        go_ret
        rw [HR.out]
        exact ⟨rfl, Below.refl _ _⟩
      | false =>
        rw [hd] at HP
        have HR : Hid (m = 1) := Lib.hid (by rw [HL2.out hd, if_pos ⟨h0, by rw [HG.out hz]; exact h48⟩])
        clear hd h48
        go_enter Tryd.func14, Tryd.ntmps14
        go_wp2_with (first
          | (go_at_call 21; refine HP.out.mono ?_; rintro e w' ⟨rfl, rfl⟩)
          | (go_at_call 22; refine HC.out.mono ?_; rintro e w' ⟨rfl, rfl⟩))
        go_ret
        rw [HR.out]
        exact ⟨rfl, Below.refl _ _⟩
    · have hc : (((T[0]'hz).toNat : Int) == 48) = false := by rw [beq_eq_false_iff_ne]; exact h48
      cases hd : dashB s with
      | true =>
        rw [hd] at HP
        have HR : Hid (m = n + 1) := Lib.hid (by rw [HL.out hd, if_pos ⟨h0, by rw [HG.out hz]; exact h48⟩])
        clear hd h48
        go_enter Tryd.func14, Tryd.ntmps14
        go_wp2_with (first
          | (go_at_call 21; refine HP.out.mono ?_; rintro e w' ⟨rfl, rfl⟩)
          | (go_at_call 22; refine HC.out.mono ?_; rintro e w' ⟨rfl, rfl⟩))
        go_ret
        rw [HR.out]
        exact ⟨ret_int (by omega), Below.refl _ _⟩
      | false =>
        rw [hd] at HP
        have HR : Hid (m = n) := Lib.hid (by rw [HL2.out hd, if_neg (by rw [HG.out hz]; omega)])
        clear hd h48
        go_enter Tryd.func14, Tryd.ntmps14
        go_wp2_with (first
          | (go_at_call 21; refine HP.out.mono ?_; rintro e w' ⟨rfl, rfl⟩)
          | (go_at_call 22; refine HC.out.mono ?_; rintro e w' ⟨rfl, rfl⟩))
        go_ret
        rw [HR.out]
        exact ⟨rfl, Below.refl _ _⟩
  · obtain rfl : n = 0 := by omega
    have HR : Hid (m = 0) := Lib.hid (by
      cases hd : dashB s with
      | true => rw [HL.out hd, if_neg (by omega)]
      | false => rw [HL2.out hd, if_neg (by omega)])
    clear h0
    go_enter Tryd.func14, Tryd.ntmps14
    go_wp2_with (first
      | (go_at_call 21; refine HP.out.mono ?_; rintro e w' ⟨rfl, rfl⟩)
      | (go_at_call 22; refine HC.out.mono ?_; rintro e w' ⟨rfl, rfl⟩))
    go_ret
    rw [HR.out]
    exact ⟨rfl, Below.refl _ _⟩
end Go.Proofs.YtkelioafnobolaaDoor
