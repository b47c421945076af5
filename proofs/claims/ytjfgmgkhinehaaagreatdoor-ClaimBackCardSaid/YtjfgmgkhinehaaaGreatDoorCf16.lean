/- DecReckon: merged. -/
import Derived.Test.YtjfgmgkhinehaaaGreatDoorCf04
set_option linter.all false
namespace Go.Proofs.YtjfgmgkhinehaaaGreatDoor
open Go Go.RowKit
theorem take_val {l : List Int} {k : Nat} (hk : k < l.length) : valL (l.take (k + 1)) = valL (l.take k) * 10 + (l.getD k 0 - 48).toNat := by
  rw [List.take_succ_eq_append_getElem hk, valL_snoc, List.getD_eq_getElem?_getD, List.getElem?_eq_getElem hk]; rfl
/-- The number of a text in two parts, and does it fit? -/
def numS (s : ByteArray) : Int := if dashB s = true then -(valL (strL (restS s)) : Int) else (valL (strL (restS s)) : Int)
def fitS (s : ByteArray) : Bool := decide (-9223372036854775808 ≤ numS s ∧ numS s ≤ 9223372036854775807)
theorem numS_num (s : ByteArray) : numS s = numL (strL s) := by
  unfold numS numL
  rw [restL]
  unfold dashB
  by_cases h : (strL s).getD 0 0 = 45
  · rw [decide_eq_true h, if_pos rfl, if_pos rfl, if_pos h]
  · rw [decide_eq_false h, if_neg (by decide), if_neg (by decide), if_neg h]
theorem tdiv_min (d : Int) (h0 : 0 ≤ d) (h1 : d ≤ 9) : (-9223372036854775808 + d).tdiv 10 = -((9223372036854775808 - d) / 10) := by
  rw [show -9223372036854775808 + d = -(9223372036854775808 - d) by omega, Int.neg_tdiv, Int.tdiv_eq_ediv_of_nonneg (by omega)]
set_option maxRecDepth 100000 in
set_option maxHeartbeats 1000000 in
theorem reckon_any (s : ByteArray) (w : World) (hs : s.size ≤ 9223372036854775807) (hD : AllD (strL (restS s))) :
    Calls Tryz.prog 197 #[.string s] w fun e w' => e = .returned (.tuple #[.int .i64 (if fitS s = true then numS s else 0), .bool (fitS s)]) ∧ w = w' := by
  have hrs := restS_size s
  have HP := Lib.hid (parts_any s w hs)
  have HV : Hid (numS s = if dashB s = true then -(valL (strL (restS s)) : Int) else (valL (strL (restS s)) : Int)) := Lib.hid rfl
  have HF : Hid (fitS s = decide (-9223372036854775808 ≤ numS s ∧ numS s ≤ 9223372036854775807)) := Lib.hid rfl
  obtain ⟨T, hT⟩ : ∃ T, T = restS s := ⟨_, rfl⟩
  obtain ⟨D, hDD⟩ : ∃ D, D = dashB s := ⟨_, rfl⟩
  obtain ⟨N, hN⟩ : ∃ N, N = numS s := ⟨_, rfl⟩
  obtain ⟨F, hF⟩ : ∃ F, F = fitS s := ⟨_, rfl⟩
  rw [← hT] at HP HV hD hrs
  rw [← hDD] at HP HV
  rw [← hN] at HV HF ⊢
  rw [← hF] at HF ⊢
  have HX : Hid ((F = true → (if F = true then N else 0) = N) ∧ (F = false → (if F = true then N else 0) = 0)) := Lib.hid ⟨fun h => if_pos h, fun h => if_neg (by rw [h]; decide)⟩
  obtain ⟨X, hX⟩ : ∃ X, X = if F = true then N else 0 := ⟨_, rfl⟩
  rw [← hX] at HX ⊢
  have HL := Lib.hid (length_strL T)
  have hts : T.size ≤ 9223372036854775807 := by omega
  have HD := Lib.hid hD
  clear hT hDD hN hF hD hrs hX
  go_enter Tryz.func197, Tryz.ntmps197
  go_wp2_with (go_at_call 195; refine HP.out.mono ?_; rintro e w' ⟨rfl, rfl⟩)
  go_loop [2, 15] (fun n i => ∃ k v : Nat, k ≤ T.size ∧ i = .int .i64 (k : Int) ∧ n = .int .i64 (-(v : Int)) ∧ v ≤ 9223372036854775808 ∧ v = valL ((strL T).take k)) (fun _ i => T.size - (intOf i).toNat)
  case atStart => exact ⟨0, 0, by omega, rfl, rfl, by omega, rfl⟩
  case round =>
    obtain ⟨k, v, hk, rfl, rfl, hv, hval⟩ := hrel
    have HVAL := Lib.hid hval
    clear hval
    by_cases hlt : k < T.size
    · have HG := Lib.hid (strL_get T k hlt)
      have hkl : k < (strL T).length := by rw [HL.out]; exact hlt
      have hdg := HD.out.at k hkl
      have HN := Lib.hid (take_val hkl)
      have hNle := valL_take_le (strL T) (k + 1)
      rw [HN.out, ← HVAL.out] at hNle
      obtain ⟨d, hd⟩ : ∃ d : Nat, (strL T).getD k 0 = 48 + (d : Int) := ⟨((strL T).getD k 0 - 48).toNat, by omega⟩
      rw [hd, show (48 + (d : Int) - 48).toNat = d by omega] at hNle
      have HN2 : Hid (valL ((strL T).take (k + 1)) = v * 10 + d) := Lib.hid (by rw [HN.out, hd, ← HVAL.out]; omega)
      have hc : ((T[k]'hlt).toNat : Int) = 48 + (d : Int) := by rw [← HG.out]; exact hd
      have hd9 : d ≤ 9 := by omega
      have ht := tdiv_min (d : Int) (by omega) (by omega)
      have HNLE := Lib.hid hNle
      have hsub : (48 + (d : Int)) - 48 = (d : Int) := by omega
      clear hd hdg hkl HN hNle
      by_cases hover : v * 10 + d ≤ 9223372036854775808
      · have hno : ¬ (-(v : Int)) < -((9223372036854775808 - (d : Int)) / 10) := by omega
        go_wp2
        go_round
        case rel => exact ⟨k + 1, v * 10 + d, by omega, by go_num, by congr 1; omega, hover, HN2.out.symm⟩
        case measure => simp [intOf]; omega
      · have hyes : (-(v : Int)) < -((9223372036854775808 - (d : Int)) / 10) := by omega
        have HR : Hid (F = false) := Lib.hid (by
          rw [HF.out, HV.out, decide_eq_false_iff_not]
          have := HNLE.out
          split <;> omega)
        go_wp2
        go_ret2
        rw [HX.out.2 HR.out, HR.out]
        exact ⟨rfl, rfl⟩
    · obtain rfl : k = T.size := by omega
      have HVV : Hid (v = valL (strL T)) := Lib.hid (by rw [HVAL.out, List.take_of_length_le (by rw [HL.out]; exact Nat.le_refl _)])
      cases D with
      | true =>
        have HR : Hid (F = true ∧ N = -(v : Int)) := Lib.hid (by
          have h := HV.out
          rw [if_pos rfl, ← HVV.out] at h
          exact ⟨by rw [HF.out, decide_eq_true_eq]; omega, h⟩)
        go_wp2
        go_ret2
        rw [HX.out.1 HR.out.1, HR.out.1, HR.out.2]
        exact ⟨rfl, rfl⟩
      | false =>
        have h := HV.out
        rw [if_neg (by decide), ← HVV.out] at h
        by_cases hm : v = 9223372036854775808
        · have HR : Hid (F = false) := Lib.hid (by rw [HF.out, decide_eq_false_iff_not]; omega)
          have hb : ((-(v : Int)) == -9223372036854775808) = true := by rw [beq_iff_eq]; omega
          clear h hm
          go_wp2
          go_ret2
          rw [HX.out.2 HR.out, HR.out]
          exact ⟨rfl, rfl⟩
        · have HR : Hid (F = true ∧ N = (v : Int)) := Lib.hid (by exact ⟨by rw [HF.out, decide_eq_true_eq]; omega, h⟩)
          have hb : ((-(v : Int)) == -9223372036854775808) = false := by rw [beq_eq_false_iff_ne]; omega
          have hv2 : (v : Int) ≤ 9223372036854775807 := by omega
          clear h hm
          go_wp2
          go_ret2
          rw [HX.out.1 HR.out.1, HR.out.1, HR.out.2]
          exact ⟨rfl, rfl⟩
end Go.Proofs.YtjfgmgkhinehaaaGreatDoor
