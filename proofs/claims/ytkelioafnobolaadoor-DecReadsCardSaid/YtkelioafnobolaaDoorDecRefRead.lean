/- The walk of the reference's Read. -/
import Derived.Test.YtkelioafnobolaaDoorDecRef
namespace Go.Proofs.YtkelioafnobolaaDoor
open Go Go.RowKit

/-- What the reference's Read tells of the number z. -/
def RdOut (z least most : Int) : Value := if least ≤ z ∧ z ≤ most then .tuple #[.int .i64 z, .int .i64 0, .int .i64 (-1)] else .tuple #[.int .i64 0, .int .i64 41, .int .i64 (-1)]
theorem RdOut_in {z least most : Int} (h : least ≤ z ∧ z ≤ most) : RdOut z least most = .tuple #[.int .i64 z, .int .i64 0, .int .i64 (-1)] := if_pos h
theorem RdOut_out {z least most : Int} (h : ¬ (least ≤ z ∧ z ≤ most)) : RdOut z least most = .tuple #[.int .i64 0, .int .i64 41, .int .i64 (-1)] := if_neg h
set_option maxHeartbeats 1000000 in
theorem refRead_wrong (s : ByteArray) (least most : Int) (w : World) (hs : s.size ≤ 300) (hf : formL (strL s) = false) :
    Calls Tryd.prog 11 #[.string s, .int .i64 least, .int .i64 most] w fun e w' => e = .returned (.tuple #[.int .i64 0, .int .i64 40, .int .i64 (leadL (strL s) : Int)]) ∧ w = w' := by
  have HFM := Lib.hid (fun W : World => refForm_any s W (by omega))
  rw [hf] at HFM
  have HLD := Lib.hid (fun W : World => refLead_any s W (by omega))
  clear hf
  go_enter Tryd.func11, Tryd.ntmps11
  go_wp2_with (first
    | (go_at_call 18; (with_reducible refine (HFM.out _).mono ?_); rintro e w' ⟨rfl, rfl⟩)
    | (go_at_call 15; (with_reducible refine (HLD.out _).mono ?_); rintro e w' ⟨rfl, rfl⟩))
  refine bodyPost_ret (v := .tuple #[.int .i64 0, .int .i64 40, .int .i64 (leadL (strL s) : Int)]) (by simp [results, Tryd.results11, go_sem]) rfl ⟨rfl, rfl⟩
set_option maxHeartbeats 1000000 in
theorem refRead_over_plain (s : ByteArray) (least most : Int) (w : World) (hs : s.size ≤ 300) (hf : formL (strL s) = true) (h45 : (strL s).getD 0 0 ≠ 45) (hv : 9223372036854775807 < valL (strL s)) :
    Calls Tryd.prog 11 #[.string s, .int .i64 least, .int .i64 most] w fun e w' => e = .returned (.tuple #[.int .i64 0, .int .i64 41, .int .i64 (-1)]) ∧ w = w' := by
  have hlen := length_strL s
  have hz : 0 < s.size := by
    rcases Nat.eq_zero_or_pos s.size with h | h
    · rw [strL_inj (a := s) (b := ⟨#[]⟩) (by rw [List.eq_nil_of_length_eq_zero (hlen.trans h)]; rfl)] at hf
      exact absurd hf (by decide)
    · exact h
  have h0 : (((s[0]'hz).toNat : Int) == 45) = false := by rw [beq_eq_false_iff_ne, ← strL_get s 0 hz]; exact h45
  have hparts := formL_parts hf
  obtain ⟨hall, hfirst⟩ : AllD (strL s) ∧ (49 ≤ (strL s).getD 0 0 ∨ (strL s).length = 1) := by
    rcases hparts with ⟨h1, h2, h3, _⟩ | ⟨h1, h2, _, h3⟩
    · exact absurd h1 h45
    · exact ⟨h2, h3⟩
  have HFM := Lib.hid (fun W : World => refForm_any s W (by omega))
  rw [hf] at HFM
  have hex : strL s = (strL s) := rfl
  have HLS := Lib.hid (fun W : World => refLess_any ⟨#[57, 50, 50, 51, 51, 55, 50, 48, 51, 54, 56, 53, 52, 55, 55, 53, 56, 48, 55]⟩ s W)
  rw [hex, lessL_val (a := strL ⟨#[57, 50, 50, 51, 51, 55, 50, 48, 51, 54, 56, 53, 52, 55, 55, 53, 56, 48, 55]⟩) (by unfold AllD; decide) hall (by decide) hfirst (by decide), show valL (strL ⟨#[57, 50, 50, 51, 51, 55, 50, 48, 51, 54, 56, 53, 52, 55, 55, 53, 56, 48, 55]⟩) = 9223372036854775807 by decide] at HLS
  rw [decide_eq_true hv] at HLS
  clear hf hlen h45 hparts hall hfirst hex hv
  go_enter Tryd.func11, Tryd.ntmps11
  go_wp2_with (first
    | (go_at_call 18; (with_reducible refine (HFM.out _).mono ?_); rintro e w' ⟨rfl, rfl⟩)
    | (go_at_call 19; (with_reducible refine (HLS.out _).mono ?_); rintro e w' ⟨rfl, rfl⟩))
  refine bodyPost_ret (v := .tuple #[.int .i64 0, .int .i64 41, .int .i64 (-1)]) (by simp [results, Tryd.results11, go_sem]) rfl ⟨rfl, rfl⟩
set_option maxRecDepth 100000 in
set_option maxHeartbeats 4000000 in
theorem refRead_in_plain (s : ByteArray) (least most : Int) (w : World) (hs : s.size ≤ 300) (hf : formL (strL s) = true) (h45 : (strL s).getD 0 0 ≠ 45) (hv : valL (strL s) ≤ 9223372036854775807) :
    Calls Tryd.prog 11 #[.string s, .int .i64 least, .int .i64 most] w fun e w' => e = .returned (RdOut (valL (strL s) : Int) least most) ∧ w = w' := by
  have hlen := length_strL s
  have hz : 0 < s.size := by
    rcases Nat.eq_zero_or_pos s.size with h | h
    · rw [strL_inj (a := s) (b := ⟨#[]⟩) (by rw [List.eq_nil_of_length_eq_zero (hlen.trans h)]; rfl)] at hf
      exact absurd hf (by decide)
    · exact h
  have h0 : (((s[0]'hz).toNat : Int) == 45) = false := by rw [beq_eq_false_iff_ne, ← strL_get s 0 hz]; exact h45
  have hparts := formL_parts hf
  obtain ⟨hall, hfirst⟩ : AllD (strL s) ∧ (49 ≤ (strL s).getD 0 0 ∨ (strL s).length = 1) := by
    rcases hparts with ⟨h1, h2, h3, _⟩ | ⟨h1, h2, _, h3⟩
    · exact absurd h1 h45
    · exact ⟨h2, h3⟩
  have HFM := Lib.hid (fun W : World => refForm_any s W (by omega))
  rw [hf] at HFM
  have hex : strL s = (strL s) := rfl
  have HLS := Lib.hid (fun W : World => refLess_any ⟨#[57, 50, 50, 51, 51, 55, 50, 48, 51, 54, 56, 53, 52, 55, 55, 53, 56, 48, 55]⟩ s W)
  rw [hex, lessL_val (a := strL ⟨#[57, 50, 50, 51, 51, 55, 50, 48, 51, 54, 56, 53, 52, 55, 55, 53, 56, 48, 55]⟩) (by unfold AllD; decide) hall (by decide) hfirst (by decide), show valL (strL ⟨#[57, 50, 50, 51, 51, 55, 50, 48, 51, 54, 56, 53, 52, 55, 55, 53, 56, 48, 55]⟩) = 9223372036854775807 by decide] at HLS
  rw [decide_eq_false (by omega)] at HLS
  have hdl : s.size = (strL s).length := by rw [← hex, length_strL]
  have hdn : (strL s).length ≤ 300 := by omega
  have HALL := Lib.hid hall
  have HV := Lib.hid (fun (k : Nat) => Nat.le_trans (valL_take_le (strL s) k) hv)
  have HG := Lib.hid (fun (k : Nat) (hk : k < s.size) => strL_get s k hk)
  rw [hex] at HG
  have HST := Lib.hid (fun (k : Nat) (hk : k < (strL s).length) => show valL ((strL s).take (k + 1)) = valL ((strL s).take k) * 10 + ((strL s).getD k 0 - 48).toNat by
    rw [List.take_succ_eq_append_getElem hk, valL_snoc, List.getD_eq_getElem?_getD, List.getElem?_eq_getElem hk]; rfl)
  have HTK : Hid ((strL s).take (strL s).length = (strL s)) := Lib.hid (List.take_length)
  obtain ⟨l, hl⟩ : ∃ l, l = (strL s) := ⟨_, rfl⟩
  rw [← hl] at HV HG HST HTK HALL hdl hdn ⊢
  have hs1 : (1 : Int) ≤ (s.size : Int) := by omega
  have HSZ := Lib.hid hdl
  have hsz300 : s.size ≤ 300 := by rw [hdl]; exact hdn
  clear hf hlen h45 hparts hall hfirst hex hv hl  hdl hdn
  go_enter Tryd.func11, Tryd.ntmps11
  go_wp2_with (first
    | (go_at_call 18; (with_reducible refine (HFM.out _).mono ?_); rintro e w' ⟨rfl, rfl⟩)
    | (go_at_call 19; (with_reducible refine (HLS.out _).mono ?_); rintro e w' ⟨rfl, rfl⟩))
  go_loop [12, 13] (fun n i => ∃ k : Nat, k ≤ l.length ∧ i = .int .i64 (k : Int) ∧ n = .int .i64 (valL (l.take k) : Int)) (fun _ i => l.length - (intOf i).toNat)
  case atStart => exact ⟨0, by omega, rfl, rfl⟩
  case round =>
    obtain ⟨k, hk, rfl, rfl⟩ := hrel
    by_cases hkl : k < l.length
    · have hlt : k < s.size := by rw [HSZ.out]; exact hkl
      have hd := HALL.out.at k hkl
      have hst := HST.out k hkl
      have hv1 := HV.out (k + 1)
      have hv0 := HV.out k
      rw [HG.out k hlt] at hd hst
      have HN : Hid ((valL (l.take (k + 1)) : Int) = (valL (l.take k) : Int) * 10 + ((((s[k]'hlt).toNat : Int)) - 48)) := Lib.hid (by rw [hst]; omega)
      have hub : (valL (l.take k) : Int) * 10 + ((((s[k]'hlt).toNat : Int)) - 48) ≤ 9223372036854775807 := by omega
      obtain ⟨v, hvv⟩ : ∃ v, v = valL (l.take k) := ⟨_, rfl⟩
      rw [← hvv] at hub hv0 HN ⊢
      obtain ⟨hd1, hd2⟩ := hd
      clear hst hvv hv1
      go_wp2
      go_round
      case rel => exact ⟨k + 1, by omega, by go_num, by rw [HN.out]⟩
      case measure => simp [intOf]; omega
    · obtain rfl : k = l.length := by omega
      have hge : ¬ l.length < s.size := by rw [HSZ.out]; omega
      have hv0 := HV.out l.length
      rw [HTK.out] at hv0 ⊢
      obtain ⟨v, hvv⟩ : ∃ v, v = valL l := ⟨_, rfl⟩
      have HSZ2 : Hid (((s.size : Nat) : Int) = (l.length : Int)) := Lib.hid (by rw [HSZ.out])
      have hgi : ¬ (l.length : Int) < (s.size : Int) := by omega
      rw [← hvv] at hv0 ⊢
      have HVV := Lib.hid hvv
      clear hvv hkl
      by_cases h1 : (v : Int) < least
      · go_wp2
        refine bodyPost_ret (v := .tuple #[.int .i64 0, .int .i64 41, .int .i64 (-1)]) (by simp [results, Tryd.results11, go_sem]) rfl ⟨?_, rfl⟩
        rw [← HVV.out, RdOut_out (by omega)]
      · by_cases h2 : most < (v : Int)
        · go_wp2
          refine bodyPost_ret (v := .tuple #[.int .i64 0, .int .i64 41, .int .i64 (-1)]) (by simp [results, Tryd.results11, go_sem]) rfl ⟨?_, rfl⟩
          rw [← HVV.out, RdOut_out (by omega)]
        · go_wp2
          refine bodyPost_ret (v := .tuple #[.int .i64 (v : Int), .int .i64 0, .int .i64 (-1)]) (by simp [results, Tryd.results11, go_sem]) rfl ⟨?_, rfl⟩
          rw [← HVV.out, RdOut_in (by omega)]
set_option maxHeartbeats 1000000 in
theorem refRead_over_dash (s : ByteArray) (least most : Int) (w : World) (hs : s.size ≤ 300) (hf : formL (strL s) = true) (h45 : (strL s).getD 0 0 = 45) (hv : 9223372036854775808 < valL ((strL s).drop 1)) :
    Calls Tryd.prog 11 #[.string s, .int .i64 least, .int .i64 most] w fun e w' => e = .returned (.tuple #[.int .i64 0, .int .i64 41, .int .i64 (-1)]) ∧ w = w' := by
  have hlen := length_strL s
  have hz : 0 < s.size := by
    rcases Nat.eq_zero_or_pos s.size with h | h
    · rw [strL_inj (a := s) (b := ⟨#[]⟩) (by rw [List.eq_nil_of_length_eq_zero (hlen.trans h)]; rfl)] at hf
      exact absurd hf (by decide)
    · exact h
  have h0 : (((s[0]'hz).toNat : Int) == 45) = true := by rw [beq_iff_eq, ← strL_get s 0 hz]; exact h45
  have hparts := formL_parts hf
  obtain ⟨hall, hfirst⟩ : AllD ((strL s).drop 1) ∧ (49 ≤ ((strL s).drop 1).getD 0 0 ∨ ((strL s).drop 1).length = 1) := by
    rcases hparts with ⟨h1, h2, h3, _⟩ | ⟨h1, h2, _, h3⟩
    · exact ⟨h2, .inl h3⟩
    · exact absurd h45 h1
  have HFM := Lib.hid (fun W : World => refForm_any s W (by omega))
  rw [hf] at HFM
  have hex : strL (s.extract 1 s.size) = ((strL s).drop 1) := by rw [strL_extract, List.take_of_length_le (by omega)]
  have HLS := Lib.hid (fun W : World => refLess_any ⟨#[57, 50, 50, 51, 51, 55, 50, 48, 51, 54, 56, 53, 52, 55, 55, 53, 56, 48, 56]⟩ (s.extract 1 s.size) W)
  rw [hex, lessL_val (a := strL ⟨#[57, 50, 50, 51, 51, 55, 50, 48, 51, 54, 56, 53, 52, 55, 55, 53, 56, 48, 56]⟩) (by unfold AllD; decide) hall (by decide) hfirst (by decide), show valL (strL ⟨#[57, 50, 50, 51, 51, 55, 50, 48, 51, 54, 56, 53, 52, 55, 55, 53, 56, 48, 56]⟩) = 9223372036854775808 by decide] at HLS
  rw [decide_eq_true hv] at HLS
  clear hf hlen h45 hparts hall hfirst hex hv
  go_enter Tryd.func11, Tryd.ntmps11
  go_wp2_with (first
    | (go_at_call 18; (with_reducible refine (HFM.out _).mono ?_); rintro e w' ⟨rfl, rfl⟩)
    | (go_at_call 19; (with_reducible refine (HLS.out _).mono ?_); rintro e w' ⟨rfl, rfl⟩))
  refine bodyPost_ret (v := .tuple #[.int .i64 0, .int .i64 41, .int .i64 (-1)]) (by simp [results, Tryd.results11, go_sem]) rfl ⟨rfl, rfl⟩
set_option maxRecDepth 100000 in
set_option maxHeartbeats 4000000 in
theorem refRead_in_dash (s : ByteArray) (least most : Int) (w : World) (hs : s.size ≤ 300) (hf : formL (strL s) = true) (h45 : (strL s).getD 0 0 = 45) (hv : valL ((strL s).drop 1) ≤ 9223372036854775808) :
    Calls Tryd.prog 11 #[.string s, .int .i64 least, .int .i64 most] w fun e w' => e = .returned (RdOut (-(valL ((strL s).drop 1) : Int)) least most) ∧ w = w' := by
  have hlen := length_strL s
  have hz : 0 < s.size := by
    rcases Nat.eq_zero_or_pos s.size with h | h
    · rw [strL_inj (a := s) (b := ⟨#[]⟩) (by rw [List.eq_nil_of_length_eq_zero (hlen.trans h)]; rfl)] at hf
      exact absurd hf (by decide)
    · exact h
  have h0 : (((s[0]'hz).toNat : Int) == 45) = true := by rw [beq_iff_eq, ← strL_get s 0 hz]; exact h45
  have hparts := formL_parts hf
  obtain ⟨hall, hfirst⟩ : AllD ((strL s).drop 1) ∧ (49 ≤ ((strL s).drop 1).getD 0 0 ∨ ((strL s).drop 1).length = 1) := by
    rcases hparts with ⟨h1, h2, h3, _⟩ | ⟨h1, h2, _, h3⟩
    · exact ⟨h2, .inl h3⟩
    · exact absurd h45 h1
  have HFM := Lib.hid (fun W : World => refForm_any s W (by omega))
  rw [hf] at HFM
  have hex : strL (s.extract 1 s.size) = ((strL s).drop 1) := by rw [strL_extract, List.take_of_length_le (by omega)]
  have HLS := Lib.hid (fun W : World => refLess_any ⟨#[57, 50, 50, 51, 51, 55, 50, 48, 51, 54, 56, 53, 52, 55, 55, 53, 56, 48, 56]⟩ (s.extract 1 s.size) W)
  rw [hex, lessL_val (a := strL ⟨#[57, 50, 50, 51, 51, 55, 50, 48, 51, 54, 56, 53, 52, 55, 55, 53, 56, 48, 56]⟩) (by unfold AllD; decide) hall (by decide) hfirst (by decide), show valL (strL ⟨#[57, 50, 50, 51, 51, 55, 50, 48, 51, 54, 56, 53, 52, 55, 55, 53, 56, 48, 56]⟩) = 9223372036854775808 by decide] at HLS
  rw [decide_eq_false (by omega)] at HLS
  have hdl : (s.extract 1 s.size).size = ((strL s).drop 1).length := by rw [← hex, length_strL]
  have hdn : ((strL s).drop 1).length ≤ 300 := by rw [List.length_drop]; omega
  have HALL := Lib.hid hall
  have HV := Lib.hid (fun (k : Nat) => Nat.le_trans (valL_take_le ((strL s).drop 1) k) hv)
  have HG := Lib.hid (fun (k : Nat) (hk : k < (s.extract 1 s.size).size) => strL_get (s.extract 1 s.size) k hk)
  rw [hex] at HG
  have HST := Lib.hid (fun (k : Nat) (hk : k < ((strL s).drop 1).length) => show valL (((strL s).drop 1).take (k + 1)) = valL (((strL s).drop 1).take k) * 10 + (((strL s).drop 1).getD k 0 - 48).toNat by
    rw [List.take_succ_eq_append_getElem hk, valL_snoc, List.getD_eq_getElem?_getD, List.getElem?_eq_getElem hk]; rfl)
  have HTK : Hid (((strL s).drop 1).take ((strL s).drop 1).length = ((strL s).drop 1)) := Lib.hid (List.take_length)
  obtain ⟨l, hl⟩ : ∃ l, l = ((strL s).drop 1) := ⟨_, rfl⟩
  rw [← hl] at HV HG HST HTK HALL hdl hdn ⊢
  obtain ⟨D, hD⟩ : ∃ D, D = s.extract 1 s.size := ⟨_, rfl⟩
  rw [← hD] at HLS HG hdl
  have HDD := Lib.hid hD
  have hs1 : (1 : Int) ≤ (s.size : Int) := by omega
  have HSZ := Lib.hid hdl
  have hsz300 : D.size ≤ 300 := by rw [hdl]; exact hdn
  clear hf hlen h45 hparts hall hfirst hex hv hl hD hdl hdn
  go_enter Tryd.func11, Tryd.ntmps11
  go_wp2_with (first
    | (go_at_call 18; (with_reducible refine (HFM.out _).mono ?_); rintro e w' ⟨rfl, rfl⟩)
    | (go_at_call 19; rw [← HDD.out]; (with_reducible refine (HLS.out _).mono ?_); rintro e w' ⟨rfl, rfl⟩))
  go_loop [12, 13] (fun n i => ∃ k : Nat, k ≤ l.length ∧ i = .int .i64 (k : Int) ∧ n = .int .i64 (-(valL (l.take k) : Int))) (fun _ i => l.length - (intOf i).toNat)
  case atStart => exact ⟨0, by omega, rfl, rfl⟩
  case round =>
    obtain ⟨k, hk, rfl, rfl⟩ := hrel
    by_cases hkl : k < l.length
    · have hlt : k < D.size := by rw [HSZ.out]; exact hkl
      have hd := HALL.out.at k hkl
      have hst := HST.out k hkl
      have hv1 := HV.out (k + 1)
      have hv0 := HV.out k
      rw [HG.out k hlt] at hd hst
      have HN : Hid ((-(valL (l.take (k + 1)) : Int)) = -(valL (l.take k) : Int) * 10 - ((((D[k]'hlt).toNat : Int)) - 48)) := Lib.hid (by rw [hst]; omega)
      have hub : (valL (l.take k) : Int) * 10 + ((((D[k]'hlt).toNat : Int)) - 48) ≤ 9223372036854775808 := by omega
      obtain ⟨v, hvv⟩ : ∃ v, v = valL (l.take k) := ⟨_, rfl⟩
      rw [← hvv] at hub hv0 HN ⊢
      obtain ⟨hd1, hd2⟩ := hd
      clear hst hvv hv1
      go_wp2
      go_round
      case rel => exact ⟨k + 1, by omega, by go_num, by rw [HN.out]⟩
      case measure => simp [intOf]; omega
    · obtain rfl : k = l.length := by omega
      have hge : ¬ l.length < D.size := by rw [HSZ.out]; omega
      have hv0 := HV.out l.length
      rw [HTK.out] at hv0 ⊢
      obtain ⟨v, hvv⟩ : ∃ v, v = valL l := ⟨_, rfl⟩
      have HSZ2 : Hid (((D.size : Nat) : Int) = (l.length : Int)) := Lib.hid (by rw [HSZ.out])
      have hgi : ¬ (l.length : Int) < (D.size : Int) := by omega
      rw [← hvv] at hv0 ⊢
      have HVV := Lib.hid hvv
      clear hvv hkl
      by_cases h1 : (-(v : Int)) < least
      · go_wp2
        refine bodyPost_ret (v := .tuple #[.int .i64 0, .int .i64 41, .int .i64 (-1)]) (by simp [results, Tryd.results11, go_sem]) rfl ⟨?_, rfl⟩
        rw [← HVV.out, RdOut_out (by omega)]
      · by_cases h2 : most < (-(v : Int))
        · go_wp2
          refine bodyPost_ret (v := .tuple #[.int .i64 0, .int .i64 41, .int .i64 (-1)]) (by simp [results, Tryd.results11, go_sem]) rfl ⟨?_, rfl⟩
          rw [← HVV.out, RdOut_out (by omega)]
        · go_wp2
          refine bodyPost_ret (v := .tuple #[.int .i64 (-(v : Int)), .int .i64 0, .int .i64 (-1)]) (by simp [results, Tryd.results11, go_sem]) rfl ⟨?_, rfl⟩
          rw [← HVV.out, RdOut_in (by omega)]
/-- What the document asks of Read. -/
def readsL (l : List Int) (least most : Int) : Value := if formL l = true then (if fitL l least most = true then .tuple #[.int .i64 (numL l), .int .i64 0, .int .i64 (-1)] else .tuple #[.int .i64 0, .int .i64 41, .int .i64 (-1)]) else .tuple #[.int .i64 0, .int .i64 40, .int .i64 (leadL l : Int)]
theorem refRead_any (s : ByteArray) (least most : Int) (w : World) (hs : s.size ≤ 300) (h0 : -9223372036854775808 ≤ least) (h1 : most ≤ 9223372036854775807) :
    Calls Tryd.prog 11 #[.string s, .int .i64 least, .int .i64 most] w fun e w' => e = .returned (readsL (strL s) least most) ∧ w = w' := by
  unfold readsL
  by_cases hf : formL (strL s) = true
  · rw [if_pos hf]
    by_cases h45 : (strL s).getD 0 0 = 45
    · have hn : numL (strL s) = -(valL ((strL s).drop 1) : Int) := by unfold numL; rw [if_pos h45]
      rcases Nat.lt_or_ge 9223372036854775808 (valL ((strL s).drop 1)) with hv | hv
      · rw [if_neg (by unfold fitL; rw [decide_eq_true_eq, hn]; omega)]
        exact refRead_over_dash s least most w hs hf h45 hv
      · have := refRead_in_dash s least most w hs hf h45 hv
        rw [← hn] at this
        by_cases hft : fitL (strL s) least most = true
        · rw [if_pos hft]
          unfold fitL at hft
          rw [decide_eq_true_eq] at hft
          rwa [RdOut_in hft.2.2] at this
        · rw [if_neg hft]
          unfold fitL at hft
          rw [decide_eq_true_eq] at hft
          rwa [RdOut_out (by omega)] at this
    · have hn : numL (strL s) = (valL (strL s) : Int) := by unfold numL; rw [if_neg h45]
      rcases Nat.lt_or_ge 9223372036854775807 (valL (strL s)) with hv | hv
      · rw [if_neg (by unfold fitL; rw [decide_eq_true_eq, hn]; omega)]
        exact refRead_over_plain s least most w hs hf h45 hv
      · have := refRead_in_plain s least most w hs hf h45 hv
        rw [← hn] at this
        by_cases hft : fitL (strL s) least most = true
        · rw [if_pos hft]
          unfold fitL at hft
          rw [decide_eq_true_eq] at hft
          rwa [RdOut_in hft.2.2] at this
        · rw [if_neg hft]
          unfold fitL at hft
          rw [decide_eq_true_eq] at hft
          rwa [RdOut_out (by omega)] at this
  · rw [if_neg hf]
    exact refRead_wrong s least most w hs (by simpa using hf)
end Go.Proofs.YtkelioafnobolaaDoor
