/- DecPart, DecReckon, JsonSame2, JsonQuote: merged. -/
import Derived.Deep.AppendLies
import Derived.Test.YtjfgmgkhinehaaaGreatDoorCx04
set_option linter.all false
namespace Go.Proofs.YtjfgmgkhinehaaaGreatDoor
open Go Go.RowKit
/-- Does it begin with - ? -/
def dashB (s : ByteArray) : Bool := decide ((strL s).getD 0 0 = 45)
set_option maxRecDepth 100000 in
theorem hasDash_any (s : ByteArray) (w : World) (hs : s.size ≤ 9223372036854775807) :
    Calls Tryz.prog 224 #[.string s, .string ⟨#[45]⟩] w fun e w' => e = .returned (.bool (dashB s)) ∧ w = w' := by
  have hlen := length_strL s
  by_cases h1 : 1 ≤ s.size
  · have hge : (1 : Int) ≤ (s.size : Int) := by omega
    have he : ((s.extract 0 1).toList == [45]) = dashB s := by
      rw [show ([45] : List UInt8) = (⟨#[45]⟩ : ByteArray).toList by rw [ByteArray.toList_eq], eq_toList, dashB]
      have : s.extract 0 1 = ⟨#[45]⟩ ↔ (strL s).getD 0 0 = 45 := by
        constructor
        · intro h
          have := congrArg strL h
          rw [strL_extract] at this
          cases hl : strL s with
          | nil => rw [hl] at hlen; simp at hlen; omega
          | cons c r =>
            rw [hl] at this
            simpa [strL] using this
        · intro h
          apply strL_inj
          rw [strL_extract]
          cases hl : strL s with
          | nil => rw [hl] at hlen; simp at hlen; omega
          | cons c r =>
            rw [hl] at h
            rw [List.getD_cons_zero] at h
            subst h
            simp [strL]
      exact decide_eq_decide.2 this
    obtain ⟨B, hB⟩ : ∃ B, B = dashB s := ⟨_, rfl⟩
    rw [← hB] at he ⊢
    clear hB hlen
    go_enter Tryz.func224, Tryz.ntmps224
    go_wp2
    go_ret
    exact ⟨rfl, rfl⟩
  · have hge : ¬ (1 : Int) ≤ (s.size : Int) := by omega
    have hd : Hid (dashB s = false) := Lib.hid (by
      unfold dashB
      rw [List.eq_nil_of_length_eq_zero (hlen.trans (by omega))]; rfl)
    clear hlen
    go_enter Tryz.func224, Tryz.ntmps224
    go_wp2
    go_ret
    rw [hd.out]
    exact ⟨rfl, rfl⟩
/-- What stands behind a sign. -/
def restS (s : ByteArray) : ByteArray := if dashB s = true then s.extract 1 s.size else s
theorem dash_size {s : ByteArray} (h : dashB s = true) : 1 ≤ s.size := by
  unfold dashB at h
  rw [decide_eq_true_eq] at h
  rw [← length_strL]
  cases hl : strL s with
  | nil => rw [hl] at h; simp at h
  | cons c r => simp
set_option maxRecDepth 100000 in
theorem cutDash_any (s : ByteArray) (w : World) (hs : s.size ≤ 9223372036854775807) :
    Calls Tryz.prog 220 #[.string s, .string ⟨#[45]⟩] w fun e w' => e = .returned (.tuple #[.string (restS s), .bool (dashB s)]) ∧ w = w' := by
  have HP := Lib.hid (hasDash_any s w hs)
  cases hd : dashB s with
  | true =>
    rw [hd] at HP
    have hge : (1 : Int) ≤ (s.size : Int) := by have := dash_size hd; omega
    have HR : Hid (restS s = s.extract 1 s.size) := Lib.hid (by unfold restS; rw [if_pos hd])
    clear hd
    go_enter Tryz.func220, Tryz.ntmps220
    go_wp2_with (go_at_call 224; refine HP.out.mono ?_; rintro e w' ⟨rfl, rfl⟩)
    go_ret2
    rw [HR.out]
    exact ⟨rfl, rfl⟩
  | false =>
    rw [hd] at HP
    have HR : Hid (restS s = s) := Lib.hid (by unfold restS; rw [if_neg (by rw [hd]; decide)])
    clear hd
    go_enter Tryz.func220, Tryz.ntmps220
    go_wp2_with (go_at_call 224; refine HP.out.mono ?_; rintro e w' ⟨rfl, rfl⟩)
    go_ret2
    rw [HR.out]
    exact ⟨rfl, rfl⟩
set_option maxRecDepth 100000 in
theorem cutDash2_any (s : ByteArray) (w : World) (hs : s.size ≤ 9223372036854775807) :
    Calls Tryz.prog 211 #[.string s, .string ⟨#[45]⟩] w fun e w' => e = .returned (.tuple #[.string (restS s), .bool (dashB s)]) ∧ w = w' := by
  have HP := Lib.hid (cutDash_any s w hs)
  go_enter Tryz.func211, Tryz.ntmps211
  go_wp2_with (go_at_call 220; refine HP.out.mono ?_; rintro e w' ⟨rfl, rfl⟩)
  go_ret2
  exact ⟨rfl, rfl⟩
set_option maxRecDepth 100000 in
theorem parts_any (s : ByteArray) (w : World) (hs : s.size ≤ 9223372036854775807) :
    Calls Tryz.prog 195 #[.string s] w fun e w' => e = .returned (.tuple #[.bool (dashB s), .string (restS s)]) ∧ w = w' := by
  have HP := Lib.hid (cutDash2_any s w hs)
  go_enter Tryz.func195, Tryz.ntmps195
  go_wp2_with (go_at_call 211; refine HP.out.mono ?_; rintro e w' ⟨rfl, rfl⟩)
  go_ret2
  exact ⟨rfl, rfl⟩
set_option maxRecDepth 100000 in
theorem belowZero_any (n : Int) (w : World) (h0 : -9223372036854775808 ≤ n) (h1 : n ≤ 9223372036854775807) :
    Calls Tryz.prog 151 #[.int .i64 n] w fun e w' => e = .returned (.int .i64 (-(n.natAbs : Int))) ∧ w = w' := by
  by_cases h : 0 < n
  · have HR : Hid (-(n.natAbs : Int) = -n) := Lib.hid (by omega)
    go_enter Tryz.func151, Tryz.ntmps151
    go_wp2
    go_ret
    rw [HR.out]
    exact ⟨rfl, rfl⟩
  · have HR : Hid (-(n.natAbs : Int) = n) := Lib.hid (by omega)
    go_enter Tryz.func151, Tryz.ntmps151
    go_wp2
    go_ret
    rw [HR.out]
    exact ⟨rfl, rfl⟩
/-! ### countDigits -/
theorem runL_eq : ∀ {l : List Int} {k : Nat}, k ≤ l.length → (∀ j, j < k → 48 ≤ l.getD j 0 ∧ l.getD j 0 ≤ 57) → (k < l.length → ¬ (48 ≤ l.getD k 0 ∧ l.getD k 0 ≤ 57)) → runL l = k
  | [], k, hk, _, _ => by simp at hk; subst hk; rfl
  | c :: r, 0, _, _, h => by
    have := h (by simp)
    rw [List.getD_cons_zero] at this
    rw [runL, if_neg (by rw [isD_iff]; exact this)]
  | c :: r, k + 1, hk, ha, h => by
    have h0 := ha 0 (by omega)
    rw [List.getD_cons_zero] at h0
    rw [runL, if_pos (isD_iff.2 h0), runL_eq (l := r) (k := k) (by simpa using hk) (fun j hj => by
      have := ha (j + 1) (by omega)
      rwa [List.getD_cons_succ] at this) (fun hlt => by
      have := h (by simpa using hlt)
      rwa [List.getD_cons_succ] at this)]
set_option maxRecDepth 100000 in
set_option maxHeartbeats 1000000 in
theorem countDigits_any (s : ByteArray) (w : World) (hs : s.size ≤ 9223372036854775807) :
    Calls Tryz.prog 196 #[.string s] w fun e w' => e = .returned (.int .i64 (runL (strL s) : Int)) ∧ w = w' := by
  have HL := Lib.hid (length_strL s)
  go_enter Tryz.func196, Tryz.ntmps196
  go_wp2
  go_loop [6] (fun i => ∃ k : Nat, k ≤ s.size ∧ i = .int .i64 (k : Int) ∧ ∀ j, j < k → 48 ≤ (strL s).getD j 0 ∧ (strL s).getD j 0 ≤ 57) (fun i => s.size - (intOf i).toNat)
  case atStart => exact ⟨0, by omega, rfl, fun j hj => by omega⟩
  case round =>
    obtain ⟨k, hk, rfl, hall⟩ := hrel
    have HA := Lib.hid hall
    clear hall
    by_cases hlt : k < s.size
    · have HG := Lib.hid (strL_get s k hlt)
      by_cases hd : 48 ≤ (strL s).getD k 0 ∧ (strL s).getD k 0 ≤ 57
      · obtain ⟨hd1, hd2⟩ := hd
        have HD := Lib.hid (And.intro hd1 hd2)
        rw [HG.out] at hd1 hd2
        go_wp2
        go_round
        case rel => exact ⟨k + 1, by omega, by go_num, fun j hj => by
          rcases Nat.lt_or_ge j k with h | h
          · exact HA.out j h
          · obtain rfl : j = k := by omega
            exact HD.out⟩
        case measure => simp [intOf]; omega
      · have HR : Hid (runL (strL s) = k) := Lib.hid (runL_eq (by rw [HL.out]; exact hk) HA.out (fun _ => hd))
        rw [HG.out] at hd
        by_cases hd1 : ((s[k]'hlt).toNat : Int) < 48
        · clear hd
          go_wp2
          go_ret
          rw [HR.out]
          exact ⟨rfl, rfl⟩
        · have hd2 : 57 < ((s[k]'hlt).toNat : Int) := by omega
          clear hd
          go_wp2
          go_ret
          rw [HR.out]
          exact ⟨rfl, rfl⟩
    · obtain rfl : k = s.size := by omega
      have HR : Hid (runL (strL s) = s.size) := Lib.hid (runL_eq (by rw [HL.out]; exact Nat.le_refl _) HA.out (fun h => by rw [HL.out] at h; omega))
      go_wp2
      go_ret
      rw [HR.out]
      exact ⟨rfl, rfl⟩
/-! ### Lead -/
theorem restL (s : ByteArray) : strL (restS s) = if dashB s = true then (strL s).drop 1 else strL s := by
  unfold restS
  split
  · rw [strL_extract, List.take_of_length_le (by rw [length_strL]; exact Nat.le_refl _)]
  · rfl
theorem restS_size (s : ByteArray) : (restS s).size ≤ s.size := by
  rw [← length_strL, ← length_strL, restL]
  split
  · rw [List.length_drop]; omega
  · exact Nat.le_refl _
theorem runL_first {l : List Int} (h : 0 < runL l) : 48 ≤ l.getD 0 0 ∧ l.getD 0 0 ≤ 57 := isD_iff.1 (runL_digit l 0 h)
theorem runL_none {l : List Int} (h : runL l = 0) : ¬ (48 ≤ l.getD 0 0 ∧ l.getD 0 0 ≤ 57) := fun hc => by
  cases l with
  | nil => simp at hc
  | cons c r => rw [List.getD_cons_zero] at hc; rw [runL, if_pos (isD_iff.2 hc)] at h; omega
theorem dash_cons {s : ByteArray} (h : dashB s = true) : strL s = 45 :: (strL s).drop 1 := by
  unfold dashB at h
  rw [decide_eq_true_eq] at h
  cases hl : strL s with
  | nil => rw [hl] at h; simp at h
  | cons c r => rw [hl] at h; rw [List.getD_cons_zero] at h; rw [h]; rfl
theorem lead_dash {s : ByteArray} (h : dashB s = true) : leadL (strL s) = if 0 < runL (strL (restS s)) ∧ (strL (restS s)).getD 0 0 ≠ 48 then runL (strL (restS s)) + 1 else 0 := by
  rw [restL, if_pos h, dash_cons h, List.drop_succ_cons, List.drop_zero, leadL, if_pos rfl]
  obtain ⟨r, hr⟩ : ∃ r, r = (strL s).drop 1 := ⟨_, rfl⟩
  rw [← hr]
  by_cases h0 : 0 < runL r
  · have := runL_first h0
    by_cases h48 : r.getD 0 0 = 48
    · rw [if_neg (by omega), if_neg (by omega)]
    · rw [if_pos (by omega), if_pos ⟨h0, h48⟩]
  · have := runL_none (l := r) (by omega)
    rw [if_neg (by omega), if_neg (by omega)]
theorem lead_plain {s : ByteArray} (h : dashB s = false) : leadL (strL s) = if 0 < runL (strL (restS s)) ∧ (strL (restS s)).getD 0 0 = 48 then 1 else runL (strL (restS s)) := by
  rw [show strL (restS s) = strL s by rw [restL, h]; rfl]
  unfold dashB at h
  rw [decide_eq_false_iff_not] at h
  obtain ⟨l, hl⟩ : ∃ l, l = strL s := ⟨_, rfl⟩
  rw [← hl] at h ⊢
  cases l with
  | nil => rfl
  | cons c r =>
    rw [List.getD_cons_zero] at h ⊢
    rw [leadL, if_neg h]
    by_cases h48 : c = 48
    · have : 0 < runL (c :: r) := by rw [runL, if_pos (isD_iff.2 (by omega))]; omega
      rw [if_pos h48, if_pos ⟨this, h48⟩]
    · rw [if_neg h48, if_neg (by omega)]
set_option maxRecDepth 100000 in
set_option maxHeartbeats 1000000 in
theorem lead_anyN (s : ByteArray) (w : World) (hs : s.size ≤ 9223372036854775806) :
    Calls Tryz.prog 172 #[.string s] w fun e w' => e = .returned (.int .i64 (leadL (strL s) : Int)) ∧ Below w.heap.size w w' := by
  have hrs := restS_size s
  have HP := Lib.hid (parts_any s w (by omega))
  have HC := Lib.hid (countDigits_any (restS s) w (by omega))
  have HL : Hid (dashB s = true → leadL (strL s) = if 0 < runL (strL (restS s)) ∧ (strL (restS s)).getD 0 0 ≠ 48 then runL (strL (restS s)) + 1 else 0) := Lib.hid lead_dash
  have HL2 : Hid (dashB s = false → leadL (strL s) = if 0 < runL (strL (restS s)) ∧ (strL (restS s)).getD 0 0 = 48 then 1 else runL (strL (restS s))) := Lib.hid lead_plain
  have hrl := runL_le (strL (restS s))
  rw [length_strL] at hrl
  obtain ⟨T, hT⟩ : ∃ T, T = restS s := ⟨_, rfl⟩
  obtain ⟨m, hm⟩ : ∃ m, m = leadL (strL s) := ⟨_, rfl⟩
  rw [← hT] at HP HC HL HL2 hrs hrl
  rw [← hm] at HL HL2 ⊢
  have HG : Hid (∀ h : 0 < T.size, (strL T).getD 0 0 = ((T[0]'h).toNat : Int)) := Lib.hid (fun h => strL_get T 0 h)
  obtain ⟨n, hn⟩ : ∃ n, n = runL (strL T) := ⟨_, rfl⟩
  rw [← hn] at HC HL HL2 hrl
  clear hm hT hn
  by_cases h0 : 0 < n
  · have hz : 0 < T.size := by omega
    have hb : ((n : Int) == 0) = false := by rw [beq_eq_false_iff_ne]; omega
    by_cases h48 : ((T[0]'hz).toNat : Int) = 48
    · have hc : (((T[0]'hz).toNat : Int) == 48) = true := by rw [beq_iff_eq]; exact h48
      cases hd : dashB s with
      | true =>
        rw [hd] at HP
        have HR : Hid (m = 0) := Lib.hid (by rw [HL.out hd, if_neg (by rw [HG.out hz]; omega)])
        clear hd h48
        go_enter Tryz.func172, Tryz.ntmps172
        go_wp2_with (first
          | (go_at_call 195; refine HP.out.mono ?_; rintro e w' ⟨rfl, rfl⟩)
          | (go_at_call 196; refine HC.out.mono ?_; rintro e w' ⟨rfl, rfl⟩))
        go_ret
        rw [HR.out]
        exact ⟨rfl, Below.refl _ _⟩
      | false =>
        rw [hd] at HP
        have HR : Hid (m = 1) := Lib.hid (by rw [HL2.out hd, if_pos ⟨h0, by rw [HG.out hz]; exact h48⟩])
        clear hd h48
        go_enter Tryz.func172, Tryz.ntmps172
        go_wp2_with (first
          | (go_at_call 195; refine HP.out.mono ?_; rintro e w' ⟨rfl, rfl⟩)
          | (go_at_call 196; refine HC.out.mono ?_; rintro e w' ⟨rfl, rfl⟩))
        go_ret
        rw [HR.out]
        exact ⟨rfl, Below.refl _ _⟩
    · have hc : (((T[0]'hz).toNat : Int) == 48) = false := by rw [beq_eq_false_iff_ne]; exact h48
      cases hd : dashB s with
      | true =>
        rw [hd] at HP
        have HR : Hid (m = n + 1) := Lib.hid (by rw [HL.out hd, if_pos ⟨h0, by rw [HG.out hz]; exact h48⟩])
        clear hd h48
        go_enter Tryz.func172, Tryz.ntmps172
        go_wp2_with (first
          | (go_at_call 195; refine HP.out.mono ?_; rintro e w' ⟨rfl, rfl⟩)
          | (go_at_call 196; refine HC.out.mono ?_; rintro e w' ⟨rfl, rfl⟩))
        go_ret
        rw [HR.out]
        exact ⟨ret_int (by omega), Below.refl _ _⟩
      | false =>
        rw [hd] at HP
        have HR : Hid (m = n) := Lib.hid (by rw [HL2.out hd, if_neg (by rw [HG.out hz]; omega)])
        clear hd h48
        go_enter Tryz.func172, Tryz.ntmps172
        go_wp2_with (first
          | (go_at_call 195; refine HP.out.mono ?_; rintro e w' ⟨rfl, rfl⟩)
          | (go_at_call 196; refine HC.out.mono ?_; rintro e w' ⟨rfl, rfl⟩))
        go_ret
        rw [HR.out]
        exact ⟨rfl, Below.refl _ _⟩
  · obtain rfl : n = 0 := by omega
    have HR : Hid (m = 0) := Lib.hid (by
      cases hd : dashB s with
      | true => rw [HL.out hd, if_neg (by omega)]
      | false => rw [HL2.out hd, if_neg (by omega)])
    clear h0
    go_enter Tryz.func172, Tryz.ntmps172
    go_wp2_with (first
      | (go_at_call 195; refine HP.out.mono ?_; rintro e w' ⟨rfl, rfl⟩)
      | (go_at_call 196; refine HC.out.mono ?_; rintro e w' ⟨rfl, rfl⟩))
    go_ret
    rw [HR.out]
    exact ⟨rfl, Below.refl _ _⟩
end Go.Proofs.YtjfgmgkhinehaaaGreatDoor
namespace Go.Proofs.YtjfgmgkhinehaaaGreatDoor
open Go Go.RowKit
theorem take_val {l : List Int} {k : Nat} (hk : k < l.length) : valL (l.take (k + 1)) = valL (l.take k) * 10 + (l.getD k 0 - 48).toNat := by
  rw [List.take_succ_eq_append_getElem hk, valL_snoc, List.getD_eq_getElem?_getD, List.getElem?_eq_getElem hk]; rfl
/-- The number of a text in two parts, and does it fit? -/
def numS (s : ByteArray) : Int := if dashB s = true then -(valL (strL (restS s)) : Int) else (valL (strL (restS s)) : Int)
def fitS (s : ByteArray) : Bool := decide (-9223372036854775808 ≤ numS s ∧ numS s ≤ 9223372036854775807)
theorem numS_num (s : ByteArray) : numS s = numL (strL s) := by
  unfold numS numL
  rw [restL]
  unfold dashB
  by_cases h : (strL s).getD 0 0 = 45
  · rw [decide_eq_true h, if_pos rfl, if_pos rfl, if_pos h]
  · rw [decide_eq_false h, if_neg (by decide), if_neg (by decide), if_neg h]
theorem tdiv_min (d : Int) (h0 : 0 ≤ d) (h1 : d ≤ 9) : (-9223372036854775808 + d).tdiv 10 = -((9223372036854775808 - d) / 10) := by
  rw [show -9223372036854775808 + d = -(9223372036854775808 - d) by omega, Int.neg_tdiv, Int.tdiv_eq_ediv_of_nonneg (by omega)]
set_option maxRecDepth 100000 in
set_option maxHeartbeats 1000000 in
theorem reckon_any (s : ByteArray) (w : World) (hs : s.size ≤ 9223372036854775807) (hD : AllD (strL (restS s))) :
    Calls Tryz.prog 197 #[.string s] w fun e w' => e = .returned (.tuple #[.int .i64 (if fitS s = true then numS s else 0), .bool (fitS s)]) ∧ w = w' := by
  have hrs := restS_size s
  have HP := Lib.hid (parts_any s w hs)
  have HV : Hid (numS s = if dashB s = true then -(valL (strL (restS s)) : Int) else (valL (strL (restS s)) : Int)) := Lib.hid rfl
  have HF : Hid (fitS s = decide (-9223372036854775808 ≤ numS s ∧ numS s ≤ 9223372036854775807)) := Lib.hid rfl
  obtain ⟨T, hT⟩ : ∃ T, T = restS s := ⟨_, rfl⟩
  obtain ⟨D, hDD⟩ : ∃ D, D = dashB s := ⟨_, rfl⟩
  obtain ⟨N, hN⟩ : ∃ N, N = numS s := ⟨_, rfl⟩
  obtain ⟨F, hF⟩ : ∃ F, F = fitS s := ⟨_, rfl⟩
  rw [← hT] at HP HV hD hrs
  rw [← hDD] at HP HV
  rw [← hN] at HV HF ⊢
  rw [← hF] at HF ⊢
  have HX : Hid ((F = true → (if F = true then N else 0) = N) ∧ (F = false → (if F = true then N else 0) = 0)) := Lib.hid ⟨fun h => if_pos h, fun h => if_neg (by rw [h]; decide)⟩
  obtain ⟨X, hX⟩ : ∃ X, X = if F = true then N else 0 := ⟨_, rfl⟩
  rw [← hX] at HX ⊢
  have HL := Lib.hid (length_strL T)
  have hts : T.size ≤ 9223372036854775807 := by omega
  have HD := Lib.hid hD
  clear hT hDD hN hF hD hrs hX
  go_enter Tryz.func197, Tryz.ntmps197
  go_wp2_with (go_at_call 195; refine HP.out.mono ?_; rintro e w' ⟨rfl, rfl⟩)
  go_loop [2, 15] (fun n i => ∃ k v : Nat, k ≤ T.size ∧ i = .int .i64 (k : Int) ∧ n = .int .i64 (-(v : Int)) ∧ v ≤ 9223372036854775808 ∧ v = valL ((strL T).take k)) (fun _ i => T.size - (intOf i).toNat)
  case atStart => exact ⟨0, 0, by omega, rfl, rfl, by omega, rfl⟩
  case round =>
    obtain ⟨k, v, hk, rfl, rfl, hv, hval⟩ := hrel
    have HVAL := Lib.hid hval
    clear hval
    by_cases hlt : k < T.size
    · have HG := Lib.hid (strL_get T k hlt)
      have hkl : k < (strL T).length := by rw [HL.out]; exact hlt
      have hdg := HD.out.at k hkl
      have HN := Lib.hid (take_val hkl)
      have hNle := valL_take_le (strL T) (k + 1)
      rw [HN.out, ← HVAL.out] at hNle
      obtain ⟨d, hd⟩ : ∃ d : Nat, (strL T).getD k 0 = 48 + (d : Int) := ⟨((strL T).getD k 0 - 48).toNat, by omega⟩
      rw [hd, show (48 + (d : Int) - 48).toNat = d by omega] at hNle
      have HN2 : Hid (valL ((strL T).take (k + 1)) = v * 10 + d) := Lib.hid (by rw [HN.out, hd, ← HVAL.out]; omega)
      have hc : ((T[k]'hlt).toNat : Int) = 48 + (d : Int) := by rw [← HG.out]; exact hd
      have hd9 : d ≤ 9 := by omega
      have ht := tdiv_min (d : Int) (by omega) (by omega)
      have HNLE := Lib.hid hNle
      have hsub : (48 + (d : Int)) - 48 = (d : Int) := by omega
      clear hd hdg hkl HN hNle
      by_cases hover : v * 10 + d ≤ 9223372036854775808
      · have hno : ¬ (-(v : Int)) < -((9223372036854775808 - (d : Int)) / 10) := by omega
        go_wp2
        go_round
        case rel => exact ⟨k + 1, v * 10 + d, by omega, by go_num, by congr 1; omega, hover, HN2.out.symm⟩
        case measure => simp [intOf]; omega
      · have hyes : (-(v : Int)) < -((9223372036854775808 - (d : Int)) / 10) := by omega
        have HR : Hid (F = false) := Lib.hid (by
          rw [HF.out, HV.out, decide_eq_false_iff_not]
          have := HNLE.out
          split <;> omega)
        go_wp2
        go_ret2
        rw [HX.out.2 HR.out, HR.out]
        exact ⟨rfl, rfl⟩
    · obtain rfl : k = T.size := by omega
      have HVV : Hid (v = valL (strL T)) := Lib.hid (by rw [HVAL.out, List.take_of_length_le (by rw [HL.out]; exact Nat.le_refl _)])
      cases D with
      | true =>
        have HR : Hid (F = true ∧ N = -(v : Int)) := Lib.hid (by
          have h := HV.out
          rw [if_pos rfl, ← HVV.out] at h
          exact ⟨by rw [HF.out, decide_eq_true_eq]; omega, h⟩)
        go_wp2
        go_ret2
        rw [HX.out.1 HR.out.1, HR.out.1, HR.out.2]
        exact ⟨rfl, rfl⟩
      | false =>
        have h := HV.out
        rw [if_neg (by decide), ← HVV.out] at h
        by_cases hm : v = 9223372036854775808
        · have HR : Hid (F = false) := Lib.hid (by rw [HF.out, decide_eq_false_iff_not]; omega)
          have hb : ((-(v : Int)) == -9223372036854775808) = true := by rw [beq_iff_eq]; omega
          clear h hm
          go_wp2
          go_ret2
          rw [HX.out.2 HR.out, HR.out]
          exact ⟨rfl, rfl⟩
        · have HR : Hid (F = true ∧ N = (v : Int)) := Lib.hid (by exact ⟨by rw [HF.out, decide_eq_true_eq]; omega, h⟩)
          have hb : ((-(v : Int)) == -9223372036854775808) = false := by rw [beq_eq_false_iff_ne]; omega
          have hv2 : (v : Int) ≤ 9223372036854775807 := by omega
          clear h hm
          go_wp2
          go_ret2
          rw [HX.out.1 HR.out.1, HR.out.1, HR.out.2]
          exact ⟨rfl, rfl⟩
end Go.Proofs.YtjfgmgkhinehaaaGreatDoor
namespace Go.Proofs.YtjfgmgkhinehaaaGreatDoor
open Go Go.RowKit
set_option maxRecDepth 100000 in
set_option maxHeartbeats 8000000 in
theorem refSame_eq (a : J) (ih : ∀ x ∈ a.l, ∀ (b : J) (va vb : Value) (W : World), RepJ W x va → RepJ W b vb → Calls Tryz.prog 15 #[va, vb] W fun e w' => e = .returned (.bool (sameJ x b)) ∧ Below W.heap.size W w')
    (b : J) (va vb : Value) (W : World) (ha : RepJ W a va) (hb : RepJ W b vb) (h1 : a.kind = b.kind) (h2 : a.n = b.n) (h3 : a.s = b.s) (h4 : a.l.length = b.l.length) (h5 : a.k.length = b.k.length) :
    Calls Tryz.prog 15 #[va, vb] W fun e w' => e = .returned (.bool (sameJ a b)) ∧ Below W.heap.size W w' := by
  obtain ⟨vk, A, c, rfl, hs, hk, hl, hc⟩ := ha.open
  obtain ⟨vk', A', c', rfl, hs', hk', hl', hc'⟩ := hb.open
  obtain ⟨K, d, rfl, hkl, hkc⟩ := hk.open
  obtain ⟨K', d', rfl, hkl', hkc'⟩ := hk'.open
  rw [← h1, ← h2, ← h3, ← h4, ← h5]
  have HSAME : Hid (sameJ a b = true ↔ a.k = b.k ∧ sameLs a.l b.l = true) := Lib.hid (by rw [sameJ_iff]; exact ⟨fun h => h.2.2.2, fun h => ⟨h1, h2, h3, h.1, h.2⟩⟩)
  have HKC := Lib.hid hkc
  have HKC' := Lib.hid hkc'
  have HC := Lib.hid hc
  have HC' := Lib.hid hc'
  have HQ := Lib.hid h5
  have HPP := Lib.hid h4
  have HIH := Lib.hid ih
  obtain ⟨s, hs1⟩ : ∃ s, s = a.s := ⟨_, rfl⟩
  obtain ⟨kd, hk1⟩ : ∃ k, k = a.kind := ⟨_, rfl⟩
  obtain ⟨n, hn1⟩ : ∃ k, k = a.n := ⟨_, rfl⟩
  obtain ⟨p, hp1⟩ : ∃ k, k = a.l.length := ⟨_, rfl⟩
  obtain ⟨q, hq1⟩ : ∃ k, k = a.k.length := ⟨_, rfl⟩
  rw [← hs1, ← hk1, ← hn1, ← hp1, ← hq1]
  rw [← hp1] at hl
  rw [← hq1] at hkl
  have HP := Lib.hid hp1
  have HQ1 := Lib.hid hq1
  have b3 : (s.toList == s.toList) = true := by simp
  clear ha hb hk hk' hkc hkc' hc hc' hs hs' hs1 hk1 hn1 hp1 hq1 hl' hkl' h1 h2 h3 h4 h5 ih
  go_enter Tryz.func15, Tryz.ntmps15
  go_wp2
  have hB2 : Below W.heap.size W ((W.alloc (.cells #[.int .i64 kd, .int .i64 n, .string s, .slice A p c, .slice K q d] 27)).alloc (.cells #[.int .i64 kd, .int .i64 n, .string s, .slice A' p c', .slice K' q d'] 27)) := ((Below.refl _ _).alloc (Nat.le_refl _) _).alloc (by simp) _
  have hx1 : ((W.alloc (.cells #[.int .i64 kd, .int .i64 n, .string s, .slice A p c, .slice K q d] 27)).alloc (.cells #[.int .i64 kd, .int .i64 n, .string s, .slice A' p c', .slice K' q d'] 27)).cell? ⟨W.heap.size, 3, none⟩ = some (.slice A p c) := by simp
  have hx2 : ((W.alloc (.cells #[.int .i64 kd, .int .i64 n, .string s, .slice A p c, .slice K q d] 27)).alloc (.cells #[.int .i64 kd, .int .i64 n, .string s, .slice A' p c', .slice K' q d'] 27)).cell? ⟨W.heap.size, 4, none⟩ = some (.slice K q d) := by simp
  have hx3 : ((W.alloc (.cells #[.int .i64 kd, .int .i64 n, .string s, .slice A p c, .slice K q d] 27)).alloc (.cells #[.int .i64 kd, .int .i64 n, .string s, .slice A' p c', .slice K' q d'] 27)).cell? ⟨W.heap.size + 1, 3, none⟩ = some (.slice A' p c') := by simp
  have hx4 : ((W.alloc (.cells #[.int .i64 kd, .int .i64 n, .string s, .slice A p c, .slice K q d] 27)).alloc (.cells #[.int .i64 kd, .int .i64 n, .string s, .slice A' p c', .slice K' q d'] 27)).cell? ⟨W.heap.size + 1, 4, none⟩ = some (.slice K' q d') := by simp
  obtain ⟨w2, hw2⟩ : ∃ x, x = ((W.alloc (.cells #[.int .i64 kd, .int .i64 n, .string s, .slice A p c, .slice K q d] 27)).alloc (.cells #[.int .i64 kd, .int .i64 n, .string s, .slice A' p c', .slice K' q d'] 27)) := ⟨_, rfl⟩
  rw [← hw2] at hB2 hx1 hx2 hx3 hx4 ⊢
  have HX := Lib.hid (And.intro hx1 (And.intro hx2 (And.intro hx3 hx4)))
  have HB2 := Lib.hid hB2
  clear hw2 hx1 hx2 hx3 hx4 hB2
  go_loopw [5] (fun i wr => ∃ j : Nat, j ≤ q ∧ i = .int .i64 (j : Int) ∧ (∀ x, x < j → a.k[x]? = b.k[x]?) ∧ Below w2.heap.size w2 wr) (fun i _ => q - (intOf i).toNat)
  case atStart => exact ⟨0, by omega, rfl, fun x hx => absurd hx (Nat.not_lt_zero _), Below.refl _ _⟩
  case round =>
    obtain ⟨j, hj, rfl, hall, hbel⟩ := hrel
    have HA := Lib.hid hall
    have HBE := Lib.hid hbel
    have y2 := (hbel.cell (p := ⟨W.heap.size, 4, none⟩) (lt_of_cell HX.out.2.1)).trans HX.out.2.1
    have y4 := (hbel.cell (p := ⟨W.heap.size + 1, 4, none⟩) (lt_of_cell HX.out.2.2.2)).trans HX.out.2.2.2
    clear hall hbel
    by_cases hlt : j < q
    · obtain ⟨g, o, rfl, hg, hz, hcell⟩ := HKC.out j (by rw [← HQ1.out]; exact hlt)
      obtain ⟨g', o', rfl, hg', hz', hcell'⟩ := HKC'.out j (by rw [← HQ.out, ← HQ1.out]; exact hlt)
      have hbw := HB2.out.trans (HBE.out.mono HB2.out.size)
      have z1 := (hbw.cell (p := ⟨g, o + j, none⟩) hg).trans hcell
      have z2 := (hbw.cell (p := ⟨g', o' + j, none⟩) hg').trans hcell'
      have HE : Hid (a.k[j]? = b.k[j]? ↔ a.k[j]'(by rw [← HQ1.out]; exact hlt) = b.k[j]'(by rw [← HQ.out, ← HQ1.out]; exact hlt)) := Lib.hid (by
        rw [List.getElem?_eq_getElem (by rw [← HQ1.out]; exact hlt), List.getElem?_eq_getElem (by rw [← HQ.out, ← HQ1.out]; exact hlt)]
        exact ⟨fun h => Option.some.inj h, fun h => by rw [h]⟩)
      obtain ⟨t1, ht1⟩ : ∃ t, t = a.k[j]'(by rw [← HQ1.out]; exact hlt) := ⟨_, rfl⟩
      obtain ⟨t2, ht2⟩ : ∃ t, t = b.k[j]'(by rw [← HQ.out, ← HQ1.out]; exact hlt) := ⟨_, rfl⟩
      rw [← ht1] at z1 HE
      rw [← ht2] at z2 HE
      clear hcell hcell' hz hz' ht1 ht2 hbw
      by_cases he : t1 = t2
      · have b4 := beq_str he
        have c4 : (t1.toList != t2.toList) = false := by rw [bne, b4]; rfl
        have HEE := Lib.hid (HE.out.2 he)
        clear he
        go_wp2
        go_quiet (fail)
        go_wp2
        go_roundw
        case rel => exact ⟨j + 1, by omega, by go_num, fun x hx => by
          rcases Nat.lt_or_ge x j with h | h
          · exact HA.out x h
          · obtain rfl : x = j := by omega
            exact HEE.out, below_drewN HBE.out _⟩
        case measure => simp [intOf]; omega
      · have b4 := beq_str_ne he
        have c4 : (t1.toList != t2.toList) = true := by rw [bne, b4]; rfl
        have HR : Hid (sameJ a b = false) := Lib.hid (by
          rw [← Bool.not_eq_true, HSAME.out]
          rintro ⟨h, _⟩
          exact he (HE.out.1 (by rw [h])))
        clear he
        go_wp2
        go_quiet (fail)
        go_wp2
        go_ret
        rw [HR.out]
        exact ⟨rfl, HB2.out.trans (below_drewN (HBE.out.mono HB2.out.size) _)⟩
    · obtain rfl : j = q := by omega
      have HKK : Hid (a.k = b.k) := Lib.hid (List.ext_getElem? fun x => by
        rcases Nat.lt_or_ge x j with h | h
        · exact HA.out x h
        · rw [List.getElem?_eq_none (by rw [← HQ1.out]; exact h), List.getElem?_eq_none (by rw [← HQ.out, ← HQ1.out]; exact h)])
      have hge : ¬ (j : Int) < (j : Int) := by omega
      go_wp2
      go_loopw [6] (fun i wq => ∃ m : Nat, m ≤ p ∧ i = .int .i64 (m : Int) ∧ (∀ x (h1 : x < a.l.length) (h2 : x < b.l.length), x < m → sameJ a.l[x] b.l[x] = true) ∧ Below w2.heap.size w2 wq) (fun i _ => p - (intOf i).toNat)
      case atStart => exact ⟨0, by omega, rfl, fun x _ _ hx => absurd hx (Nat.not_lt_zero _), HBE.out⟩
      case round =>
        obtain ⟨m, hm, rfl, hall, hbel⟩ := hrel
        have HA2 := Lib.hid hall
        have HBE2 := Lib.hid hbel
        have y1 := (hbel.cell (p := ⟨W.heap.size, 3, none⟩) (lt_of_cell HX.out.1)).trans HX.out.1
        have y3 := (hbel.cell (p := ⟨W.heap.size + 1, 3, none⟩) (lt_of_cell HX.out.2.2.1)).trans HX.out.2.2.1
        clear hall hbel y2 y4
        by_cases hlt : m < p
        · have hm1 : m < a.l.length := by rw [← HP.out]; exact hlt
          have hm2 : m < b.l.length := by rw [← HPP.out]; exact hm1
          obtain ⟨g, o, rfl, hg, hrep⟩ := HC.out (fun e => by rw [e] at hm1; exact absurd hm1 (Nat.not_lt_zero _))
          obtain ⟨g', o', rfl, hg', hrep'⟩ := HC'.out (fun e => by rw [e] at hm2; exact absurd hm2 (Nat.not_lt_zero _))
          obtain ⟨v1, hr1, hf1⟩ := hrep.at m hm1
          obtain ⟨v2, hr2, hf2⟩ := hrep'.at m hm2
          have hbw := HB2.out.trans (HBE2.out.mono HB2.out.size)
          have HCALL := Lib.hid (fun (w' : World) (hb : Below W.heap.size W w') => HIH.out a.l[m] (List.getElem_mem hm1) b.l[m] v1 v2 w' (RepJ.below hb _ _ hr1) (RepJ.below hb _ _ hr2))
          obtain ⟨a0, a1, a2, a3, a4, rfl, z0, z1, z2, z3, z4⟩ := hf1.below hg hbw
          obtain ⟨c0, c1, c2, c3, c4, rfl, u0, u1, u2, u3, u4⟩ := hf2.below hg' hbw
          obtain ⟨f, hff⟩ : ∃ f, f = sameJ a.l[m] b.l[m] := ⟨_, rfl⟩
          rw [← hff] at HCALL
          have HFF := Lib.hid hff
          have HBW := Lib.hid hbw
          clear hrep hrep' hr1 hr2 hf1 hf2 hbw hff
          go_wp2
          have w0 : (0 : Int) ≤ (m : Int) := by omega
          have w1 : (m : Int) < (p : Int) := by omega
          go_region_held3 (fun w' => w'.cell? ⟨W.heap.size, 3, none⟩ = some (.slice (some ⟨g, o, none⟩) p c) ∧ w'.cell? ⟨W.heap.size + 1, 3, none⟩ = some (.slice (some ⟨g', o', none⟩) p c') ∧ w'.cell? ⟨g, o + m * 5, none⟩ = some a0 ∧ w'.cell? ⟨g, o + m * 5 + 1, none⟩ = some a1 ∧ w'.cell? ⟨g, o + m * 5 + 2, none⟩ = some a2 ∧ w'.cell? ⟨g, o + m * 5 + 3, none⟩ = some a3 ∧ w'.cell? ⟨g, o + m * 5 + 4, none⟩ = some a4
              ∧ w'.cell? ⟨g', o' + m * 5, none⟩ = some c0 ∧ w'.cell? ⟨g', o' + m * 5 + 1, none⟩ = some c1 ∧ w'.cell? ⟨g', o' + m * 5 + 2, none⟩ = some c2 ∧ w'.cell? ⟨g', o' + m * 5 + 3, none⟩ = some c3 ∧ w'.cell? ⟨g', o' + m * 5 + 4, none⟩ = some c4)
            (first | go_keep | exact ⟨(hb.cell (lt_of_cell y1)).trans y1, (hb.cell (lt_of_cell y3)).trans y3, (hb.cell (lt_of_cell z0)).trans z0, (hb.cell (lt_of_cell z1)).trans z1, (hb.cell (lt_of_cell z2)).trans z2, (hb.cell (lt_of_cell z3)).trans z3, (hb.cell (lt_of_cell z4)).trans z4, (hb.cell (lt_of_cell u0)).trans u0, (hb.cell (lt_of_cell u1)).trans u1, (hb.cell (lt_of_cell u2)).trans u2, (hb.cell (lt_of_cell u3)).trans u3, (hb.cell (lt_of_cell u4)).trans u4⟩)
            (first | (go_at_call 15; refine (HCALL.out _ (HBW.out.drew)).mono ?_; rintro e w' ⟨rfl, hb⟩))
          have HB3 := Lib.hid ((HBE2.out.drew).trans (hb.mono HBE2.out.size))
          clear hb
          by_cases hf : f = true
          · obtain rfl := hf
            go_wp2
            go_roundw
            case rel => exact ⟨m + 1, by omega, by go_num, fun x h1 h2 hx => by
              rcases Nat.lt_or_ge x m with h | h
              · exact HA2.out x h1 h2 h
              · obtain rfl : x = m := by omega
                exact HFF.out.symm, HB3.out⟩
            case measure => simp [intOf]; omega
          · obtain rfl : f = false := by simpa using hf
            have HR : Hid (sameJ a b = false) := Lib.hid (by
              rw [← Bool.not_eq_true, HSAME.out]
              rintro ⟨_, h⟩
              rw [(sameLs_iff.1 h).2 m hm1 hm2] at HFF
              exact absurd HFF.out (by decide))
            go_wp2
            go_ret
            rw [HR.out]
            exact ⟨rfl, HB2.out.trans (HB3.out.mono HB2.out.size)⟩
        · obtain rfl : m = p := by omega
          have HR : Hid (sameJ a b = true) := Lib.hid (by
            rw [HSAME.out]
            exact ⟨HKK.out, sameLs_iff.2 ⟨HPP.out, fun x h1 h2 => HA2.out x h1 h2 (by rw [HP.out]; exact h1)⟩⟩)
          have hge2 : ¬ (m : Int) < (m : Int) := by omega
          go_wp2
          go_ret
          rw [HR.out]
          exact ⟨rfl, HB2.out.trans (HBE2.out.mono HB2.out.size)⟩
theorem refSame_any (a : J) : ∀ (b : J) (va vb : Value) (W : World), RepJ W a va → RepJ W b vb → Calls Tryz.prog 15 #[va, vb] W fun e w' => e = .returned (.bool (sameJ a b)) ∧ Below W.heap.size W w' := by
  induction a using J.ind with
  | h kind n s l k ih =>
    intro b va vb W ha hb
    by_cases h : (J.mk kind n s l k).kind = b.kind ∧ (J.mk kind n s l k).n = b.n ∧ (J.mk kind n s l k).s = b.s ∧ (J.mk kind n s l k).l.length = b.l.length ∧ (J.mk kind n s l k).k.length = b.k.length
    · obtain ⟨h1, h2, h3, h4, h5⟩ := h
      exact refSame_eq (J.mk kind n s l k) ih b va vb W ha hb h1 h2 h3 h4 h5
    · exact refSame_ne _ b va vb W ha hb h
end Go.Proofs.YtjfgmgkhinehaaaGreatDoor
namespace Go.Proofs.YtjfgmgkhinehaaaGreatDoor
open Go Go.RowKit
/-- A digit's sign, of base 16. -/
def hexS (d : Int) : Int := if d < 10 then 48 + d else 87 + d
/-- A byte within quotes. -/
def qOne (c : Int) : List Int := if c < 32 then [92, 117, 48, 48, hexS (c / 16), hexS (c % 16)] else if c = 34 ∨ c = 92 then [92, c] else [c]
/-- A text's beginning, within quotes. -/
def qPre (l : List Int) : Nat → List Int
  | 0 => [34]
  | k + 1 => qPre l k ++ qOne (l.getD k 0)
/-- A text within quotes. -/
def quoteL (l : List Int) : List Int := qPre l l.length ++ [34]
theorem qOne_len (c : Int) : (qOne c).length ≤ 6 := by
  unfold qOne; split
  · simp
  · split <;> simp
theorem qPre_len (l : List Int) : ∀ k, (qPre l k).length ≤ 6 * k + 1
  | 0 => by simp [qPre]
  | k + 1 => by
    have := qPre_len l k
    have := qOne_len (l.getD k 0)
    rw [qPre, List.length_append]; omega
theorem info5 : (Tryz.prog.info? 5).map (fun i => (i.zero, i.size, i.bytes)) = some (some (.int .u8 0), 1, 1) := by kernel_rfl
theorem hexS_nat : ∀ i : Fin 16, (((⟨#[48, 49, 50, 51, 52, 53, 54, 55, 56, 57, 97, 98, 99, 100, 101, 102]⟩ : ByteArray)[i.val]'(i.isLt)).toNat : Int) = hexS (i.val : Int) := by decide
theorem hexS_get (d : Int) (h0 : 0 ≤ d) (h1 : d < 16) : (((⟨#[48, 49, 50, 51, 52, 53, 54, 55, 56, 57, 97, 98, 99, 100, 101, 102]⟩ : ByteArray)[d.toNat]'(by show _ < 16; omega)).toNat : Int) = hexS d := by
  have := hexS_nat ⟨d.toNat, by omega⟩
  rw [show (((⟨d.toNat, by omega⟩ : Fin 16).val : Nat) : Int) = d from by show ((d.toNat : Nat) : Int) = d; omega] at this
  exact this
end Go.Proofs.YtjfgmgkhinehaaaGreatDoor
