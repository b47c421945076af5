/- DecRef, DecRefRead: merged. -/
import Derived.WalkLawsBesides
import Derived.WalkSpells
import Derived.Handy
import Derived.RegionTactic
import Derived.LoopTactic
import Derived.StillTailTactics
import Derived.IntWalk
import Derived.Test.YtljdnjidphmkjaaDoorLx34
set_option linter.all false
namespace Go.Proofs.YtljdnjidphmkjaaDoor
open Go Go.RowKit
/-! ### form -/
set_option maxHeartbeats 1000000 in
theorem refForm_plain (s : ByteArray) (w : World) (hs : s.size ≤ 9223372036854775807) (h45 : (strL s).getD 0 0 ≠ 45) :
    Calls Tryd.prog 49 #[.string s] w fun e w' => e = .returned (.bool (formL (strL s))) ∧ w = w' := by
  have hlen := length_strL s
  have HF : Hid (formL (strL s) = true ↔ AllD (strL s) ∧ ((strL s).length = 1 ∨ 1 < (strL s).length ∧ (strL s).getD 0 0 ≠ 48)) := Lib.hid (formL_plain h45)
  have h0 : ∀ h : 0 < s.size, (((s[0]'h).toNat : Int) == 45) = false := fun h => by
    rw [beq_eq_false_iff_ne, ← strL_get s 0 h]; exact h45
  by_cases hz : 0 < s.size
  · have h0' := h0 hz
    have HG0 := Lib.hid (strL_get s 0 hz)
    have HL := Lib.hid hlen
    clear h0 h45 hlen
    go_enter Tryd.func49, Tryd.ntmps49
    go_wp2
    go_loop [3] (fun i => ∃ k : Nat, k ≤ s.size ∧ i = .int .i64 (k : Int) ∧ ∀ j, j < k → 48 ≤ (strL s).getD j 0 ∧ (strL s).getD j 0 ≤ 57) (fun i => s.size - (intOf i).toNat)
    case atStart => exact ⟨0, by omega, rfl, fun j hj => by omega⟩
    case round =>
      obtain ⟨k, hk, rfl, hall⟩ := hrel
      have HA := Lib.hid hall
      clear hall
      by_cases hlt : k < s.size
      · have HG := Lib.hid (strL_get s k hlt)
        by_cases hd : 48 ≤ (strL s).getD k 0 ∧ (strL s).getD k 0 ≤ 57
        · obtain ⟨hd1, hd2⟩ := hd
          have HD := Lib.hid (And.intro hd1 hd2)
          rw [HG.out] at hd1 hd2
          go_wp2
          go_round
          case rel => exact ⟨k + 1, by omega, by go_num, fun j hj => by
            rcases Nat.lt_or_ge j k with h | h
            · exact HA.out j h
            · obtain rfl : j = k := by omega
              exact HD.out⟩
          case measure => simp [intOf]; omega
        · have HR : Hid (formL (strL s) = false) := Lib.hid (by
            rw [← Bool.not_eq_true, HF.out]
            rintro ⟨h, _⟩
            exact hd (h.at k (by rw [HL.out]; exact hlt)))
          rw [HG.out] at hd
          by_cases hd1 : ((s[k]'hlt).toNat : Int) < 48
          · clear hd
            go_wp2
            go_ret
            rw [HR.out]
            exact ⟨rfl, rfl⟩
          · have hd2 : 57 < ((s[k]'hlt).toNat : Int) := by omega
            clear hd
            go_wp2
            go_ret
            rw [HR.out]
            exact ⟨rfl, rfl⟩
      · obtain rfl : k = s.size := by omega
        have HALL : Hid (AllD (strL s)) := Lib.hid (.of_at fun j hj => HA.out j (by rw [HL.out] at hj; exact hj))
        by_cases h1 : s.size = 1
        · have HR : Hid (formL (strL s) = true) := Lib.hid (HF.out.2 ⟨HALL.out, .inl (by rw [HL.out, h1])⟩)
          have h1b : ((s.size : Int) == 1) = true := by rw [beq_iff_eq]; omega
          have H1 := Lib.hid h1
          clear h1
          go_wp2
          go_ret
          rw [HR.out]
          exact ⟨rfl, rfl⟩
        · have h1b : ((s.size : Int) == 1) = false := by rw [beq_eq_false_iff_ne]; omega
          have h1c : (1 : Int) < (s.size : Int) := by omega
          by_cases h48 : (strL s).getD 0 0 = 48
          · have HR : Hid (formL (strL s) = false) := Lib.hid (by
              rw [← Bool.not_eq_true, HF.out]
              rintro ⟨_, h | ⟨_, h⟩⟩
              · rw [HL.out] at h; exact h1 h
              · exact h h48)
            have hb : (((s[0]'hz).toNat : Int) != 48) = false := by rw [← HG0.out, h48]; rfl
            clear h48 h1
            go_wp2
            go_ret
            rw [HR.out]
            exact ⟨rfl, rfl⟩
          · have HR : Hid (formL (strL s) = true) := Lib.hid (HF.out.2 ⟨HALL.out, .inr ⟨by rw [HL.out]; omega, h48⟩⟩)
            have hb : (((s[0]'hz).toNat : Int) != 48) = true := by rw [← HG0.out, bne_iff_ne]; exact h48
            clear h48 h1
            go_wp2
            go_ret
            rw [HR.out]
            exact ⟨rfl, rfl⟩
  · have e : s = ⟨#[]⟩ := strL_inj (by rw [List.eq_nil_of_length_eq_zero (hlen.trans (by omega))]; rfl)
    subst e
    clear hlen HF h0 h45 hs hz
    go_enter Tryd.func49, Tryd.ntmps49
    go_wp2
    refine wp_loop_rounds 1 ?_
    rw [rounds_succ]
    go_wp2
    go_ret
    exact ⟨rfl, rfl⟩
set_option maxHeartbeats 1000000 in
theorem refForm_any (s : ByteArray) (w : World) (hs : s.size ≤ 9223372036854775807) :
    Calls Tryd.prog 49 #[.string s] w fun e w' => e = .returned (.bool (formL (strL s))) ∧ w = w' := by
  by_cases h45 : (strL s).getD 0 0 = 45
  · have hlen := length_strL s
    have hz : 0 < s.size := by
      rcases Nat.eq_zero_or_pos s.size with h | h
      · rw [List.eq_nil_of_length_eq_zero (hlen.trans h)] at h45; simp at h45
      · exact h
    have h0 : (((s[0]'hz).toNat : Int) == 45) = true := by rw [beq_iff_eq, ← strL_get s 0 hz]; exact h45
    have hex : strL (s.extract 1 s.size) = (strL s).drop 1 := by rw [strL_extract, List.take_of_length_le (by omega)]
    have hl1 : ((strL s).drop 1).getD 0 0 = (strL s).getD 1 0 := by simp [List.getD_eq_getElem?_getD]
    have hcons : strL s = 45 :: (strL s).drop 1 := by
      cases hl : strL s with
      | nil => rw [hl] at h45; simp at h45
      | cons c r => rw [hl] at h45; rw [List.getD_cons_zero] at h45; rw [h45]; rfl
    have hd := formL_dash ((strL s).drop 1)
    rw [← hcons, hl1] at hd
    have HD := Lib.hid hd
    by_cases h1 : 1 < s.size
    · have HG1 := Lib.hid (strL_get s 1 h1)
      have hne : (strL s).drop 1 ≠ [] := fun e => by
        have := congrArg List.length e
        rw [List.length_drop, hlen] at this
        simp at this; omega
      have HNE := Lib.hid hne
      by_cases h48 : (strL s).getD 1 0 = 48
      · have HR : Hid (formL (strL s) = false) := Lib.hid (by rw [← Bool.not_eq_true, HD.out]; rintro ⟨_, h, _⟩; exact h h48)
        have hb : (((s[1]'h1).toNat : Int) != 48) = false := by rw [← HG1.out, h48]; rfl
        clear hd hne h48 hl1 hex hcons h45 hlen
        go_enter Tryd.func49, Tryd.ntmps49
        go_wp2
        go_ret
        rw [HR.out]
        exact ⟨rfl, rfl⟩
      · have hb : (((s[1]'h1).toNat : Int) != 48) = true := by rw [← HG1.out, bne_iff_ne]; exact h48
        by_cases h451 : (strL s).getD 1 0 = 45
        · have HR : Hid (formL (strL s) = false) := Lib.hid (by rw [← Bool.not_eq_true, HD.out]; rintro ⟨_, _, h, _⟩; exact h h451)
          have hb2 : (((s[1]'h1).toNat : Int) != 45) = false := by rw [← HG1.out, h451]; rfl
          clear hd hne h48 h451 hl1 hex hcons h45 hlen
          go_enter Tryd.func49, Tryd.ntmps49
          go_wp2
          go_ret
          rw [HR.out]
          exact ⟨rfl, rfl⟩
        · have hb2 : (((s[1]'h1).toNat : Int) != 45) = true := by rw [← HG1.out, bne_iff_ne]; exact h451
          have HC := Lib.hid (refForm_plain (s.extract 1 s.size) w (by rw [← length_strL, hex, List.length_drop]; omega) (by rw [hex, hl1]; exact h451))
          rw [hex] at HC
          have HR : Hid (formL ((strL s).drop 1) = formL (strL s)) := Lib.hid (by
            rw [Bool.eq_iff_iff, HD.out]
            exact ⟨fun h => ⟨HNE.out, h48, h451, h⟩, fun h => h.2.2.2⟩)
          rw [HR.out] at HC
          clear hd hne h48 h451 hl1 hex hcons h45 hlen
          go_enter Tryd.func49, Tryd.ntmps49
          go_wp2_with (go_at_call 49; (with_reducible refine HC.out.mono ?_); rintro e w' ⟨rfl, rfl⟩)
          go_ret
          exact ⟨rfl, rfl⟩
    · have h1' : s.size = 1 := by omega
      have HR : Hid (formL (strL s) = false) := Lib.hid (by
        rw [← Bool.not_eq_true, HD.out]
        rintro ⟨h, _⟩
        exact h (List.drop_eq_nil_of_le (by omega)))
      have hc : ¬ (1 : Int) < (s.size : Int) := by omega
      clear hd hl1 hex hcons h45 hlen h1'
      go_enter Tryd.func49, Tryd.ntmps49
      go_wp2
      go_ret
      rw [HR.out]
      exact ⟨rfl, rfl⟩
  · exact refForm_plain s w hs h45
/-! ### less -/
set_option maxHeartbeats 400000 in
theorem refLess_any (s t : ByteArray) (w : World) :
    Calls Tryd.prog 50 #[.string s, .string t] w fun e w' => e = .returned (.bool (lessL (strL s) (strL t))) ∧ w = w' := by
  have h1 := length_strL s
  have h2 := length_strL t
  by_cases h : s.size = t.size
  · have hb : ((s.size : Int) != (t.size : Int)) = false := by rw [h]; simp
    have HR : Hid (lessL (strL s) (strL t) = Op.bytesLess s.toList t.toList) := Lib.hid (by
      unfold lessL; rw [if_neg (by rw [h1, h2, h]; simp), bytesLess_str])
    obtain ⟨b, hbb⟩ : ∃ b, b = Op.bytesLess s.toList t.toList := ⟨_, rfl⟩
    rw [HR.out, ← hbb]
    have HBB := Lib.hid hbb
    clear h1 h2 h hbb
    go_enter Tryd.func50, Tryd.ntmps50
    go_wp2
    go_ret
    rw [HBB.out]
    exact ⟨rfl, rfl⟩
  · have hb : ((s.size : Int) != (t.size : Int)) = true := by rw [bne_iff_ne]; omega
    have HR : Hid (lessL (strL s) (strL t) = decide (s.size < t.size)) := Lib.hid (by
      unfold lessL; rw [if_pos (by rw [h1, h2]; exact h), h1, h2])
    rw [HR.out]
    clear h1 h2 h
    go_enter Tryd.func50, Tryd.ntmps50
    go_wp2
    go_ret
    exact ⟨rfl, rfl⟩
/-! ### Lead -/
set_option maxHeartbeats 1000000 in
theorem refLead_any (s : ByteArray) (w : World) (hs : s.size ≤ 9223372036854775806) :
    Calls Tryd.prog 24 #[.string s] w fun e w' => e = .returned (.int .i64 (leadL (strL s) : Int)) ∧ w = w' := by
  have HL := Lib.hid (length_strL s)
  have HF := Lib.hid (fun (k : Nat) (hk : k ≤ s.size) (W : World) => refForm_any (s.extract 0 k) W (by rw [← length_strL, strL_extract, List.drop_zero, List.length_take, length_strL]; omega))
  have HE := Lib.hid (fun (k : Nat) => show strL (s.extract 0 k) = (strL s).take k by rw [strL_extract, List.drop_zero])
  go_enter Tryd.func24, Tryd.ntmps24
  go_wp2
  go_loop [3, 4] (fun b n => ∃ k : Nat, k ≤ s.size ∧ n = .int .i64 ((k + 1 : Nat) : Int) ∧ b = .int .i64 (leadL ((strL s).take k) : Int) ∧ AllD (((strL s).take k).drop 1)) (fun _ n => s.size + 1 - (intOf n).toNat)
  case atStart => exact ⟨0, by omega, rfl, rfl, fun x hx => by simp at hx⟩
  case round =>
    obtain ⟨k, hk, rfl, rfl, hall⟩ := hrel
    have HA := Lib.hid hall
    clear hall
    by_cases hlt : k < s.size
    · have hnext : ∀ (hd : k = 0 ∨ 48 ≤ (strL s).getD k 0 ∧ (strL s).getD k 0 ≤ 57), AllD (((strL s).take (k + 1)).drop 1) := fun hd x hx => by
        rw [List.take_succ_eq_append_getElem (by rw [HL.out]; exact hlt)] at hx
        rcases Nat.eq_zero_or_pos k with h0 | h0
        · subst h0; simp at hx
        · rw [List.drop_append_of_le_length (by rw [List.length_take, HL.out]; omega)] at hx
          rcases List.mem_append.1 hx with hx | hx
          · exact HA.out x hx
          · have h1 := hd.resolve_left (by omega)
            rw [List.getD_eq_getElem?_getD, List.getElem?_eq_getElem (by rw [HL.out]; exact hlt)] at h1
            simp at hx
            subst hx
            exact h1
      have HNX := Lib.hid hnext
      have HST := Lib.hid (fun hd => leadL_step (l := strL s) (k := k) (by rw [HL.out]; exact hlt) (hnext hd))
      have HFK := Lib.hid (HF.out (k + 1) (by omega))
      rw [HE.out] at HFK
      have HG := Lib.hid (strL_get s k hlt)
      have hlt' : (k : Int) + 1 ≤ (s.size : Int) := by omega
      clear hnext
      by_cases h0 : k = 0
      · have HS1 : Hid (leadL ((strL s).take (k + 1)) = if formL ((strL s).take (k + 1)) = true then k + 1 else leadL ((strL s).take k)) := Lib.hid (HST.out (.inl h0))
        have HN1 := Lib.hid (HNX.out (.inl h0))
        have hk1 : ¬ (1 : Int) < (k : Int) + 1 := by omega
        clear h0
        obtain ⟨f, hf⟩ : ∃ f, f = formL ((strL s).take (k + 1)) := ⟨_, rfl⟩
        rw [← hf] at HFK HS1
        clear hf
        cases f
        · have HB : Hid (leadL ((strL s).take (k + 1)) = leadL ((strL s).take k)) := Lib.hid (by rw [HS1.out, if_neg (by decide)])
          go_wp2_with (go_at_call 49; (with_reducible refine (HFK.out _).mono ?_); rintro e w' ⟨rfl, rfl⟩)
          go_round
          case rel => exact ⟨k + 1, by omega, by go_num, by rw [HB.out], HN1.out⟩
          case measure => simp [intOf]; omega
        · have HB : Hid (leadL ((strL s).take (k + 1)) = k + 1) := Lib.hid (by rw [HS1.out, if_pos rfl])
          go_wp2_with (go_at_call 49; (with_reducible refine (HFK.out _).mono ?_); rintro e w' ⟨rfl, rfl⟩)
          go_round
          case rel => exact ⟨k + 1, by omega, by go_num, by rw [HB.out]; go_num, HN1.out⟩
          case measure => simp [intOf]; omega
      · have hk1 : (1 : Int) < (k : Int) + 1 := by omega
        by_cases hd : 48 ≤ (strL s).getD k 0 ∧ (strL s).getD k 0 ≤ 57
        · have HS1 : Hid (leadL ((strL s).take (k + 1)) = if formL ((strL s).take (k + 1)) = true then k + 1 else leadL ((strL s).take k)) := Lib.hid (HST.out (.inr hd))
          have HN1 := Lib.hid (HNX.out (.inr hd))
          obtain ⟨hd1, hd2⟩ := hd
          rw [HG.out] at hd1 hd2
          clear h0
          obtain ⟨f, hf⟩ : ∃ f, f = formL ((strL s).take (k + 1)) := ⟨_, rfl⟩
          rw [← hf] at HFK HS1
          clear hf
          cases f
          · have HB : Hid (leadL ((strL s).take (k + 1)) = leadL ((strL s).take k)) := Lib.hid (by rw [HS1.out, if_neg (by decide)])
            go_wp2_with (go_at_call 49; (with_reducible refine (HFK.out _).mono ?_); rintro e w' ⟨rfl, rfl⟩)
            go_round
            case rel => exact ⟨k + 1, by omega, by go_num, by rw [HB.out], HN1.out⟩
            case measure => simp [intOf]; omega
          · have HB : Hid (leadL ((strL s).take (k + 1)) = k + 1) := Lib.hid (by rw [HS1.out, if_pos rfl])
            go_wp2_with (go_at_call 49; (with_reducible refine (HFK.out _).mono ?_); rintro e w' ⟨rfl, rfl⟩)
            go_round
            case rel => exact ⟨k + 1, by omega, by go_num, by rw [HB.out]; go_num, HN1.out⟩
            case measure => simp [intOf]; omega
        · have HR : Hid (leadL ((strL s).take k) = leadL (strL s)) := Lib.hid (leadL_break (by rw [HL.out]; exact hlt) (by omega) HA.out hd).symm
          rw [HG.out] at hd
          by_cases hd1 : ((s[k]'hlt).toNat : Int) < 48
          · clear hd h0
            go_wp2
            go_ret
            rw [HR.out]
            exact ⟨rfl, rfl⟩
          · have hd2 : 57 < ((s[k]'hlt).toNat : Int) := by omega
            clear hd h0
            go_wp2
            go_ret
            rw [HR.out]
            exact ⟨rfl, rfl⟩
    · obtain rfl : k = s.size := by omega
      have HR : Hid (leadL ((strL s).take s.size) = leadL (strL s)) := Lib.hid (by rw [List.take_of_length_le (by rw [HL.out]; exact Nat.le_refl _)])
      go_wp2
      go_ret
      rw [HR.out]
      exact ⟨rfl, rfl⟩
end Go.Proofs.YtljdnjidphmkjaaDoor
namespace Go.Proofs.YtljdnjidphmkjaaDoor
open Go Go.RowKit
/-- What the reference's Read tells of the number z. -/
def RdOut (z least most : Int) : Value := if least ≤ z ∧ z ≤ most then .tuple #[.int .i64 z, .int .i64 0, .int .i64 (-1)] else .tuple #[.int .i64 0, .int .i64 41, .int .i64 (-1)]
theorem RdOut_in {z least most : Int} (h : least ≤ z ∧ z ≤ most) : RdOut z least most = .tuple #[.int .i64 z, .int .i64 0, .int .i64 (-1)] := if_pos h
theorem RdOut_out {z least most : Int} (h : ¬ (least ≤ z ∧ z ≤ most)) : RdOut z least most = .tuple #[.int .i64 0, .int .i64 41, .int .i64 (-1)] := if_neg h
set_option maxHeartbeats 1000000 in
theorem refRead_wrong (s : ByteArray) (least most : Int) (w : World) (hs : s.size ≤ 1000000000) (hf : formL (strL s) = false) :
    Calls Tryd.prog 25 #[.string s, .int .i64 least, .int .i64 most] w fun e w' => e = .returned (.tuple #[.int .i64 0, .int .i64 40, .int .i64 (leadL (strL s) : Int)]) ∧ w = w' := by
  have HFM := Lib.hid (fun W : World => refForm_any s W (by omega))
  rw [hf] at HFM
  have HLD := Lib.hid (fun W : World => refLead_any s W (by omega))
  clear hf
  go_enter Tryd.func25, Tryd.ntmps25
  go_wp2_with (first
    | (go_at_call 49; (with_reducible refine (HFM.out _).mono ?_); rintro e w' ⟨rfl, rfl⟩)
    | (go_at_call 24; (with_reducible refine (HLD.out _).mono ?_); rintro e w' ⟨rfl, rfl⟩))
  refine bodyPost_ret (v := .tuple #[.int .i64 0, .int .i64 40, .int .i64 (leadL (strL s) : Int)]) (by simp [results, Tryd.results25, go_sem]) rfl ⟨rfl, rfl⟩
set_option maxHeartbeats 1000000 in
theorem refRead_over_plain (s : ByteArray) (least most : Int) (w : World) (hs : s.size ≤ 1000000000) (hf : formL (strL s) = true) (h45 : (strL s).getD 0 0 ≠ 45) (hv : 9223372036854775807 < valL (strL s)) :
    Calls Tryd.prog 25 #[.string s, .int .i64 least, .int .i64 most] w fun e w' => e = .returned (.tuple #[.int .i64 0, .int .i64 41, .int .i64 (-1)]) ∧ w = w' := by
  have hlen := length_strL s
  have hz : 0 < s.size := by
    rcases Nat.eq_zero_or_pos s.size with h | h
    · rw [strL_inj (a := s) (b := ⟨#[]⟩) (by rw [List.eq_nil_of_length_eq_zero (hlen.trans h)]; rfl)] at hf
      exact absurd hf (by decide)
    · exact h
  have h0 : (((s[0]'hz).toNat : Int) == 45) = false := by rw [beq_eq_false_iff_ne, ← strL_get s 0 hz]; exact h45
  have hparts := formL_parts hf
  obtain ⟨hall, hfirst⟩ : AllD (strL s) ∧ (49 ≤ (strL s).getD 0 0 ∨ (strL s).length = 1) := by
    rcases hparts with ⟨h1, h2, h3, _⟩ | ⟨h1, h2, _, h3⟩
    · exact absurd h1 h45
    · exact ⟨h2, h3⟩
  have HFM := Lib.hid (fun W : World => refForm_any s W (by omega))
  rw [hf] at HFM
  have hex : strL s = (strL s) := rfl
  have HLS := Lib.hid (fun W : World => refLess_any ⟨#[57, 50, 50, 51, 51, 55, 50, 48, 51, 54, 56, 53, 52, 55, 55, 53, 56, 48, 55]⟩ s W)
  rw [hex, lessL_val (a := strL ⟨#[57, 50, 50, 51, 51, 55, 50, 48, 51, 54, 56, 53, 52, 55, 55, 53, 56, 48, 55]⟩) (by unfold AllD; decide) hall (by decide) hfirst (by decide), show valL (strL ⟨#[57, 50, 50, 51, 51, 55, 50, 48, 51, 54, 56, 53, 52, 55, 55, 53, 56, 48, 55]⟩) = 9223372036854775807 by decide] at HLS
  rw [decide_eq_true hv] at HLS
  clear hf hlen h45 hparts hall hfirst hex hv
  go_enter Tryd.func25, Tryd.ntmps25
  go_wp2_with (first
    | (go_at_call 49; (with_reducible refine (HFM.out _).mono ?_); rintro e w' ⟨rfl, rfl⟩)
    | (go_at_call 50; (with_reducible refine (HLS.out _).mono ?_); rintro e w' ⟨rfl, rfl⟩))
  refine bodyPost_ret (v := .tuple #[.int .i64 0, .int .i64 41, .int .i64 (-1)]) (by simp [results, Tryd.results25, go_sem]) rfl ⟨rfl, rfl⟩
set_option maxRecDepth 100000 in
set_option maxHeartbeats 4000000 in
theorem refRead_in_plain (s : ByteArray) (least most : Int) (w : World) (hs : s.size ≤ 1000000000) (hf : formL (strL s) = true) (h45 : (strL s).getD 0 0 ≠ 45) (hv : valL (strL s) ≤ 9223372036854775807) :
    Calls Tryd.prog 25 #[.string s, .int .i64 least, .int .i64 most] w fun e w' => e = .returned (RdOut (valL (strL s) : Int) least most) ∧ w = w' := by
  have hlen := length_strL s
  have hz : 0 < s.size := by
    rcases Nat.eq_zero_or_pos s.size with h | h
    · rw [strL_inj (a := s) (b := ⟨#[]⟩) (by rw [List.eq_nil_of_length_eq_zero (hlen.trans h)]; rfl)] at hf
      exact absurd hf (by decide)
    · exact h
  have h0 : (((s[0]'hz).toNat : Int) == 45) = false := by rw [beq_eq_false_iff_ne, ← strL_get s 0 hz]; exact h45
  have hparts := formL_parts hf
  obtain ⟨hall, hfirst⟩ : AllD (strL s) ∧ (49 ≤ (strL s).getD 0 0 ∨ (strL s).length = 1) := by
    rcases hparts with ⟨h1, h2, h3, _⟩ | ⟨h1, h2, _, h3⟩
    · exact absurd h1 h45
    · exact ⟨h2, h3⟩
  have HFM := Lib.hid (fun W : World => refForm_any s W (by omega))
  rw [hf] at HFM
  have hex : strL s = (strL s) := rfl
  have HLS := Lib.hid (fun W : World => refLess_any ⟨#[57, 50, 50, 51, 51, 55, 50, 48, 51, 54, 56, 53, 52, 55, 55, 53, 56, 48, 55]⟩ s W)
  rw [hex, lessL_val (a := strL ⟨#[57, 50, 50, 51, 51, 55, 50, 48, 51, 54, 56, 53, 52, 55, 55, 53, 56, 48, 55]⟩) (by unfold AllD; decide) hall (by decide) hfirst (by decide), show valL (strL ⟨#[57, 50, 50, 51, 51, 55, 50, 48, 51, 54, 56, 53, 52, 55, 55, 53, 56, 48, 55]⟩) = 9223372036854775807 by decide] at HLS
  rw [decide_eq_false (by omega)] at HLS
  have hdl : s.size = (strL s).length := by rw [← hex, length_strL]
  have hdn : (strL s).length ≤ 1000000000 := by omega
  have HALL := Lib.hid hall
  have HV := Lib.hid (fun (k : Nat) => Nat.le_trans (valL_take_le (strL s) k) hv)
  have HG := Lib.hid (fun (k : Nat) (hk : k < s.size) => strL_get s k hk)
  rw [hex] at HG
  have HST := Lib.hid (fun (k : Nat) (hk : k < (strL s).length) => show valL ((strL s).take (k + 1)) = valL ((strL s).take k) * 10 + ((strL s).getD k 0 - 48).toNat by
    rw [List.take_succ_eq_append_getElem hk, valL_snoc, List.getD_eq_getElem?_getD, List.getElem?_eq_getElem hk]; rfl)
  have HTK : Hid ((strL s).take (strL s).length = (strL s)) := Lib.hid (List.take_length)
  obtain ⟨l, hl⟩ : ∃ l, l = (strL s) := ⟨_, rfl⟩
  rw [← hl] at HV HG HST HTK HALL hdl hdn ⊢
  have hs1 : (1 : Int) ≤ (s.size : Int) := by omega
  have HSZ := Lib.hid hdl
  have hszN : s.size ≤ 1000000000 := by rw [hdl]; exact hdn
  clear hf hlen h45 hparts hall hfirst hex hv hl  hdl hdn
  go_enter Tryd.func25, Tryd.ntmps25
  go_wp2_with (first
    | (go_at_call 49; (with_reducible refine (HFM.out _).mono ?_); rintro e w' ⟨rfl, rfl⟩)
    | (go_at_call 50; (with_reducible refine (HLS.out _).mono ?_); rintro e w' ⟨rfl, rfl⟩))
  go_loop [12, 13] (fun n i => ∃ k : Nat, k ≤ l.length ∧ i = .int .i64 (k : Int) ∧ n = .int .i64 (valL (l.take k) : Int)) (fun _ i => l.length - (intOf i).toNat)
  case atStart => exact ⟨0, by omega, rfl, rfl⟩
  case round =>
    obtain ⟨k, hk, rfl, rfl⟩ := hrel
    by_cases hkl : k < l.length
    · have hlt : k < s.size := by rw [HSZ.out]; exact hkl
      have hd := HALL.out.at k hkl
      have hst := HST.out k hkl
      have hv1 := HV.out (k + 1)
      have hv0 := HV.out k
      rw [HG.out k hlt] at hd hst
      have HN : Hid ((valL (l.take (k + 1)) : Int) = (valL (l.take k) : Int) * 10 + ((((s[k]'hlt).toNat : Int)) - 48)) := Lib.hid (by rw [hst]; omega)
      have hub : (valL (l.take k) : Int) * 10 + ((((s[k]'hlt).toNat : Int)) - 48) ≤ 9223372036854775807 := by omega
      obtain ⟨v, hvv⟩ : ∃ v, v = valL (l.take k) := ⟨_, rfl⟩
      rw [← hvv] at hub hv0 HN ⊢
      obtain ⟨hd1, hd2⟩ := hd
      clear hst hvv hv1
      go_wp2
      go_round
      case rel => exact ⟨k + 1, by omega, by go_num, by rw [HN.out]⟩
      case measure => simp [intOf]; omega
    · obtain rfl : k = l.length := by omega
      have hge : ¬ l.length < s.size := by rw [HSZ.out]; omega
      have hv0 := HV.out l.length
      rw [HTK.out] at hv0 ⊢
      obtain ⟨v, hvv⟩ : ∃ v, v = valL l := ⟨_, rfl⟩
      have HSZ2 : Hid (((s.size : Nat) : Int) = (l.length : Int)) := Lib.hid (by rw [HSZ.out])
      have hgi : ¬ (l.length : Int) < (s.size : Int) := by omega
      rw [← hvv] at hv0 ⊢
      have HVV := Lib.hid hvv
      clear hvv hkl
      by_cases h1 : (v : Int) < least
      · go_wp2
        refine bodyPost_ret (v := .tuple #[.int .i64 0, .int .i64 41, .int .i64 (-1)]) (by simp [results, Tryd.results25, go_sem]) rfl ⟨?_, rfl⟩
        rw [← HVV.out, RdOut_out (by omega)]
      · by_cases h2 : most < (v : Int)
        · go_wp2
          refine bodyPost_ret (v := .tuple #[.int .i64 0, .int .i64 41, .int .i64 (-1)]) (by simp [results, Tryd.results25, go_sem]) rfl ⟨?_, rfl⟩
          rw [← HVV.out, RdOut_out (by omega)]
        · go_wp2
          refine bodyPost_ret (v := .tuple #[.int .i64 (v : Int), .int .i64 0, .int .i64 (-1)]) (by simp [results, Tryd.results25, go_sem]) rfl ⟨?_, rfl⟩
          rw [← HVV.out, RdOut_in (by omega)]
set_option maxHeartbeats 1000000 in
theorem refRead_over_dash (s : ByteArray) (least most : Int) (w : World) (hs : s.size ≤ 1000000000) (hf : formL (strL s) = true) (h45 : (strL s).getD 0 0 = 45) (hv : 9223372036854775808 < valL ((strL s).drop 1)) :
    Calls Tryd.prog 25 #[.string s, .int .i64 least, .int .i64 most] w fun e w' => e = .returned (.tuple #[.int .i64 0, .int .i64 41, .int .i64 (-1)]) ∧ w = w' := by
  have hlen := length_strL s
  have hz : 0 < s.size := by
    rcases Nat.eq_zero_or_pos s.size with h | h
    · rw [strL_inj (a := s) (b := ⟨#[]⟩) (by rw [List.eq_nil_of_length_eq_zero (hlen.trans h)]; rfl)] at hf
      exact absurd hf (by decide)
    · exact h
  have h0 : (((s[0]'hz).toNat : Int) == 45) = true := by rw [beq_iff_eq, ← strL_get s 0 hz]; exact h45
  have hparts := formL_parts hf
  obtain ⟨hall, hfirst⟩ : AllD ((strL s).drop 1) ∧ (49 ≤ ((strL s).drop 1).getD 0 0 ∨ ((strL s).drop 1).length = 1) := by
    rcases hparts with ⟨h1, h2, h3, _⟩ | ⟨h1, h2, _, h3⟩
    · exact ⟨h2, .inl h3⟩
    · exact absurd h45 h1
  have HFM := Lib.hid (fun W : World => refForm_any s W (by omega))
  rw [hf] at HFM
  have hex : strL (s.extract 1 s.size) = ((strL s).drop 1) := by rw [strL_extract, List.take_of_length_le (by omega)]
  have HLS := Lib.hid (fun W : World => refLess_any ⟨#[57, 50, 50, 51, 51, 55, 50, 48, 51, 54, 56, 53, 52, 55, 55, 53, 56, 48, 56]⟩ (s.extract 1 s.size) W)
  rw [hex, lessL_val (a := strL ⟨#[57, 50, 50, 51, 51, 55, 50, 48, 51, 54, 56, 53, 52, 55, 55, 53, 56, 48, 56]⟩) (by unfold AllD; decide) hall (by decide) hfirst (by decide), show valL (strL ⟨#[57, 50, 50, 51, 51, 55, 50, 48, 51, 54, 56, 53, 52, 55, 55, 53, 56, 48, 56]⟩) = 9223372036854775808 by decide] at HLS
  rw [decide_eq_true hv] at HLS
  clear hf hlen h45 hparts hall hfirst hex hv
  go_enter Tryd.func25, Tryd.ntmps25
  go_wp2_with (first
    | (go_at_call 49; (with_reducible refine (HFM.out _).mono ?_); rintro e w' ⟨rfl, rfl⟩)
    | (go_at_call 50; (with_reducible refine (HLS.out _).mono ?_); rintro e w' ⟨rfl, rfl⟩))
  refine bodyPost_ret (v := .tuple #[.int .i64 0, .int .i64 41, .int .i64 (-1)]) (by simp [results, Tryd.results25, go_sem]) rfl ⟨rfl, rfl⟩
set_option maxRecDepth 100000 in
set_option maxHeartbeats 4000000 in
theorem refRead_in_dash (s : ByteArray) (least most : Int) (w : World) (hs : s.size ≤ 1000000000) (hf : formL (strL s) = true) (h45 : (strL s).getD 0 0 = 45) (hv : valL ((strL s).drop 1) ≤ 9223372036854775808) :
    Calls Tryd.prog 25 #[.string s, .int .i64 least, .int .i64 most] w fun e w' => e = .returned (RdOut (-(valL ((strL s).drop 1) : Int)) least most) ∧ w = w' := by
  have hlen := length_strL s
  have hz : 0 < s.size := by
    rcases Nat.eq_zero_or_pos s.size with h | h
    · rw [strL_inj (a := s) (b := ⟨#[]⟩) (by rw [List.eq_nil_of_length_eq_zero (hlen.trans h)]; rfl)] at hf
      exact absurd hf (by decide)
    · exact h
  have h0 : (((s[0]'hz).toNat : Int) == 45) = true := by rw [beq_iff_eq, ← strL_get s 0 hz]; exact h45
  have hparts := formL_parts hf
  obtain ⟨hall, hfirst⟩ : AllD ((strL s).drop 1) ∧ (49 ≤ ((strL s).drop 1).getD 0 0 ∨ ((strL s).drop 1).length = 1) := by
    rcases hparts with ⟨h1, h2, h3, _⟩ | ⟨h1, h2, _, h3⟩
    · exact ⟨h2, .inl h3⟩
    · exact absurd h45 h1
  have HFM := Lib.hid (fun W : World => refForm_any s W (by omega))
  rw [hf] at HFM
  have hex : strL (s.extract 1 s.size) = ((strL s).drop 1) := by rw [strL_extract, List.take_of_length_le (by omega)]
  have HLS := Lib.hid (fun W : World => refLess_any ⟨#[57, 50, 50, 51, 51, 55, 50, 48, 51, 54, 56, 53, 52, 55, 55, 53, 56, 48, 56]⟩ (s.extract 1 s.size) W)
  rw [hex, lessL_val (a := strL ⟨#[57, 50, 50, 51, 51, 55, 50, 48, 51, 54, 56, 53, 52, 55, 55, 53, 56, 48, 56]⟩) (by unfold AllD; decide) hall (by decide) hfirst (by decide), show valL (strL ⟨#[57, 50, 50, 51, 51, 55, 50, 48, 51, 54, 56, 53, 52, 55, 55, 53, 56, 48, 56]⟩) = 9223372036854775808 by decide] at HLS
  rw [decide_eq_false (by omega)] at HLS
  have hdl : (s.extract 1 s.size).size = ((strL s).drop 1).length := by rw [← hex, length_strL]
  have hdn : ((strL s).drop 1).length ≤ 1000000000 := by rw [List.length_drop]; omega
  have HALL := Lib.hid hall
  have HV := Lib.hid (fun (k : Nat) => Nat.le_trans (valL_take_le ((strL s).drop 1) k) hv)
  have HG := Lib.hid (fun (k : Nat) (hk : k < (s.extract 1 s.size).size) => strL_get (s.extract 1 s.size) k hk)
  rw [hex] at HG
  have HST := Lib.hid (fun (k : Nat) (hk : k < ((strL s).drop 1).length) => show valL (((strL s).drop 1).take (k + 1)) = valL (((strL s).drop 1).take k) * 10 + (((strL s).drop 1).getD k 0 - 48).toNat by
    rw [List.take_succ_eq_append_getElem hk, valL_snoc, List.getD_eq_getElem?_getD, List.getElem?_eq_getElem hk]; rfl)
  have HTK : Hid (((strL s).drop 1).take ((strL s).drop 1).length = ((strL s).drop 1)) := Lib.hid (List.take_length)
  obtain ⟨l, hl⟩ : ∃ l, l = ((strL s).drop 1) := ⟨_, rfl⟩
  rw [← hl] at HV HG HST HTK HALL hdl hdn ⊢
  obtain ⟨D, hD⟩ : ∃ D, D = s.extract 1 s.size := ⟨_, rfl⟩
  rw [← hD] at HLS HG hdl
  have HDD := Lib.hid hD
  have hs1 : (1 : Int) ≤ (s.size : Int) := by omega
  have HSZ := Lib.hid hdl
  have hszN : D.size ≤ 1000000000 := by rw [hdl]; exact hdn
  clear hf hlen h45 hparts hall hfirst hex hv hl hD hdl hdn
  go_enter Tryd.func25, Tryd.ntmps25
  go_wp2_with (first
    | (go_at_call 49; (with_reducible refine (HFM.out _).mono ?_); rintro e w' ⟨rfl, rfl⟩)
    | (go_at_call 50; rw [← HDD.out]; (with_reducible refine (HLS.out _).mono ?_); rintro e w' ⟨rfl, rfl⟩))
  go_loop [12, 13] (fun n i => ∃ k : Nat, k ≤ l.length ∧ i = .int .i64 (k : Int) ∧ n = .int .i64 (-(valL (l.take k) : Int))) (fun _ i => l.length - (intOf i).toNat)
  case atStart => exact ⟨0, by omega, rfl, rfl⟩
  case round =>
    obtain ⟨k, hk, rfl, rfl⟩ := hrel
    by_cases hkl : k < l.length
    · have hlt : k < D.size := by rw [HSZ.out]; exact hkl
      have hd := HALL.out.at k hkl
      have hst := HST.out k hkl
      have hv1 := HV.out (k + 1)
      have hv0 := HV.out k
      rw [HG.out k hlt] at hd hst
      have HN : Hid ((-(valL (l.take (k + 1)) : Int)) = -(valL (l.take k) : Int) * 10 - ((((D[k]'hlt).toNat : Int)) - 48)) := Lib.hid (by rw [hst]; omega)
      have hub : (valL (l.take k) : Int) * 10 + ((((D[k]'hlt).toNat : Int)) - 48) ≤ 9223372036854775808 := by omega
      obtain ⟨v, hvv⟩ : ∃ v, v = valL (l.take k) := ⟨_, rfl⟩
      rw [← hvv] at hub hv0 HN ⊢
      obtain ⟨hd1, hd2⟩ := hd
      clear hst hvv hv1
      go_wp2
      go_round
      case rel => exact ⟨k + 1, by omega, by go_num, by rw [HN.out]⟩
      case measure => simp [intOf]; omega
    · obtain rfl : k = l.length := by omega
      have hge : ¬ l.length < D.size := by rw [HSZ.out]; omega
      have hv0 := HV.out l.length
      rw [HTK.out] at hv0 ⊢
      obtain ⟨v, hvv⟩ : ∃ v, v = valL l := ⟨_, rfl⟩
      have HSZ2 : Hid (((D.size : Nat) : Int) = (l.length : Int)) := Lib.hid (by rw [HSZ.out])
      have hgi : ¬ (l.length : Int) < (D.size : Int) := by omega
      rw [← hvv] at hv0 ⊢
      have HVV := Lib.hid hvv
      clear hvv hkl
      by_cases h1 : (-(v : Int)) < least
      · go_wp2
        refine bodyPost_ret (v := .tuple #[.int .i64 0, .int .i64 41, .int .i64 (-1)]) (by simp [results, Tryd.results25, go_sem]) rfl ⟨?_, rfl⟩
        rw [← HVV.out, RdOut_out (by omega)]
      · by_cases h2 : most < (-(v : Int))
        · go_wp2
          refine bodyPost_ret (v := .tuple #[.int .i64 0, .int .i64 41, .int .i64 (-1)]) (by simp [results, Tryd.results25, go_sem]) rfl ⟨?_, rfl⟩
          rw [← HVV.out, RdOut_out (by omega)]
        · go_wp2
          refine bodyPost_ret (v := .tuple #[.int .i64 (-(v : Int)), .int .i64 0, .int .i64 (-1)]) (by simp [results, Tryd.results25, go_sem]) rfl ⟨?_, rfl⟩
          rw [← HVV.out, RdOut_in (by omega)]
/-- What the document asks of Read. -/
def readsL (l : List Int) (least most : Int) : Value := if formL l = true then (if fitL l least most = true then .tuple #[.int .i64 (numL l), .int .i64 0, .int .i64 (-1)] else .tuple #[.int .i64 0, .int .i64 41, .int .i64 (-1)]) else .tuple #[.int .i64 0, .int .i64 40, .int .i64 (leadL l : Int)]
theorem refRead_anyN (s : ByteArray) (least most : Int) (w : World) (hs : s.size ≤ 1000000000) (h0 : -9223372036854775808 ≤ least) (h1 : most ≤ 9223372036854775807) :
    Calls Tryd.prog 25 #[.string s, .int .i64 least, .int .i64 most] w fun e w' => e = .returned (readsL (strL s) least most) ∧ w = w' := by
  unfold readsL
  by_cases hf : formL (strL s) = true
  · rw [if_pos hf]
    by_cases h45 : (strL s).getD 0 0 = 45
    · have hn : numL (strL s) = -(valL ((strL s).drop 1) : Int) := by unfold numL; rw [if_pos h45]
      rcases Nat.lt_or_ge 9223372036854775808 (valL ((strL s).drop 1)) with hv | hv
      · rw [if_neg (by unfold fitL; rw [decide_eq_true_eq, hn]; omega)]
        exact refRead_over_dash s least most w hs hf h45 hv
      · have := refRead_in_dash s least most w hs hf h45 hv
        rw [← hn] at this
        by_cases hft : fitL (strL s) least most = true
        · rw [if_pos hft]
          unfold fitL at hft
          rw [decide_eq_true_eq] at hft
          rwa [RdOut_in hft.2.2] at this
        · rw [if_neg hft]
          unfold fitL at hft
          rw [decide_eq_true_eq] at hft
          rwa [RdOut_out (by omega)] at this
    · have hn : numL (strL s) = (valL (strL s) : Int) := by unfold numL; rw [if_neg h45]
      rcases Nat.lt_or_ge 9223372036854775807 (valL (strL s)) with hv | hv
      · rw [if_neg (by unfold fitL; rw [decide_eq_true_eq, hn]; omega)]
        exact refRead_over_plain s least most w hs hf h45 hv
      · have := refRead_in_plain s least most w hs hf h45 hv
        rw [← hn] at this
        by_cases hft : fitL (strL s) least most = true
        · rw [if_pos hft]
          unfold fitL at hft
          rw [decide_eq_true_eq] at hft
          rwa [RdOut_in hft.2.2] at this
        · rw [if_neg hft]
          unfold fitL at hft
          rw [decide_eq_true_eq] at hft
          rwa [RdOut_out (by omega)] at this
  · rw [if_neg hf]
    exact refRead_wrong s least most w hs (by simpa using hf)
end Go.Proofs.YtljdnjidphmkjaaDoor
