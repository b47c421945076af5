/- LxQuote: merged. -/
import Derived.Test.YtljdnjidphmkjaaDoorLx10
import Derived.Test.YtljdnjidphmkjaaDoorLx17
import Derived.Test.YtljdnjidphmkjaaDoorLx19
set_option linter.all false
namespace Go.Proofs.YtljdnjidphmkjaaDoor
open Go Go.RowKit
set_option maxRecDepth 100000 in
set_option maxHeartbeats 8000000 in
theorem quoteB_any (s : ByteArray) (w : World) (hm : Marks w) (hs : s.size ≤ 1000000000) :
    Calls Tryd.prog 15 #[.string s] w fun e w' => e = .returned (.tuple #[.string (toS (quoteN (strL s)).1), .bool (quoteN (strL s)).2]) ∧ Below w.heap.size w w' := by
  have HM := Lib.hid hm
  have HL := Lib.hid (length_strL s)
  have HCK := Lib.hid (fun (A : Option Addr) (c : Nat) (W : World) (hM : Marks W) (hl : Lies W A (strL s)) => check_any A (strL s) s.size c W hM (length_strL s) (by omega) (strL_bd s) hl)
  unfold CheckTells CheckWrong at HCK
  clear hm
  go_enter Tryd.func15, Tryd.ntmps15
  go_wp2_with (refine wpList_convert_str rfl (some 8) rfl _ _ 5 _ rfl s rfl Tryd.underlying9 Tryd.underlying40 Tryd.underlying5 ?_; intro A c w1 hl1 hc1 hb1; have H1 := Lib.hid (And.intro hl1 hb1); clear hl1 hb1; try go_frame)
  refine (HCK.out A c w1 (HM.out.below H1.out.2) H1.out.1).mono ?_
  rintro e w2 (⟨hbad, rfl, hb2⟩ | ⟨hbad, b, rfl, _, _, _, hb2⟩)
  case inr =>
    have HQ := Lib.hid (quote_no hbad)
    have HB := Lib.hid (H1.out.2.trans (hb2.mono H1.out.2.size))
    clear hbad hb2
    go_wp2_with fail
    go_ret2
    rw [HQ.out]
    exact ⟨rfl, HB.out⟩
  case inl =>
    have HBAD := Lib.hid hbad
    have HB2 := Lib.hid (H1.out.2.trans (hb2.mono H1.out.2.size))
    have HBL := Lib.hid (bld_new w2)
    obtain ⟨w3, hw3⟩ : ∃ w3, w3 = w2.alloc (.cells #[.pointer none, .slice none 0 0] 66) := ⟨_, rfl⟩
    have HB3 : Hid (Below w.heap.size w w3 ∧ w2.heap.size ≤ w3.heap.size) := Lib.hid (by rw [hw3]; exact ⟨HB2.out.alloc HB2.out.size _, by simp⟩)
    rw [← hw3] at HBL
    have HW3 := hw3.symm
    have hsz2 : w.heap.size ≤ w2.heap.size := HB2.out.size
    clear hbad hb2 hw3
    go_wp2_with fail
    try rw [HW3]
    refine (writeB_any w2.heap.size w2.heap.size [] 34 w3 HBL.out (by simp) HB3.out.2).mono ?_
    rintro e w4 ⟨rfl, hbl4, hb4⟩
    have HL4 := Lib.hid (show IsBld w2.heap.size w2.heap.size (ints .u8 [34]) w4 from hbl4)
    have HB4 := Lib.hid (And.intro (HB3.out.1.trans (hb4.mono hsz2)) (Nat.le_trans HB3.out.2 hb4.size))
    clear hbl4 hb4
    go_wp2_with fail
    go_loopw [14] (fun v wr => ∃ k : Nat, k ≤ s.size ∧ v = .int .i64 (k : Int) ∧ Hid (∀ i, i < k → 32 ≤ (strL s).getD i 0) ∧ IsBld w2.heap.size w2.heap.size (ints .u8 (34 :: escN ((strL s).take k))) wr ∧ Below w.heap.size w wr ∧ w2.heap.size ≤ wr.heap.size) (fun v _ => s.size - (intOf v).toNat)
    case atStart => exact ⟨0, by omega, rfl, Lib.hid (fun i h => absurd h (Nat.not_lt_zero _)), HL4.out, HB4.out.1, HB4.out.2⟩
    case round =>
      obtain ⟨k, hk, rfl, HH, hbl, hbel, hszr⟩ := hrel
      have HBD := Lib.hid hbl
      have HBE := Lib.hid hbel
      clear hbl hbel
      have hel := escN_len ((strL s).take k)
      rw [List.length_take, HL.out] at hel
      by_cases h : k < s.size
      · have HG := strL_get s k h
        have hkI : (k : Int) < (s.size : Int) := by omega
        have hk0 : (0 : Int) ≤ (k : Int) := by omega
        have hcb := byte_of s k h
        have HNX := escN_take (strL s) k (by rw [HL.out]; exact h)
        have HLO := Lib.hid (fun hc => quote_low (l := strL s) (k := k) (by rw [HL.out]; exact h) hc)
        rw [HG] at HNX HLO
        have HMU := Lib.hid (fun W : World => must_any (s[k].toNat : Int) W)
        by_cases h32 : (s[k].toNat : Int) < 32
        · have HQ := Lib.hid (HLO.out h32)
          clear HLO HNX HG hcb
          go_wp2_with fail
          go_ret2
          rw [HQ.out]
          exact ⟨rfl, HBE.out⟩
        · have HH2 : Hid (∀ i, i < k + 1 → 32 ≤ (strL s).getD i 0) := Lib.hid fun i hi => by
            rcases Nat.lt_or_ge i k with h' | h'
            · exact HH.out i h'
            · obtain rfl : i = k := by omega
              rw [HG]; omega
          cases he : escC (s[k].toNat : Int) with
          | true =>
            rw [he] at HMU
            have HE : Hid (ints .u8 (34 :: escN ((strL s).take (k + 1))) = ints .u8 (34 :: escN ((strL s).take k)) ++ ints .u8 [92] ++ ints .u8 [(s[k].toNat : Int)]) := Lib.hid (by
              rw [HNX, ← ints_append, ← ints_append]
              unfold esc1
              rw [if_pos (of_decide_eq_true he)]; simp)
            clear HNX HG he HLO
            go_wp2_with fail
            refine (HMU.out _).mono ?_
            rintro e w5 ⟨rfl, rfl⟩
            go_wp2_with fail
            refine (writeB_any w2.heap.size w2.heap.size _ 92 _ HBD.out (by rw [length_ints, List.length_cons]; omega) hszr).mono ?_
            rintro e w6 ⟨rfl, hbl6, hb6⟩
            have HL6 := Lib.hid hbl6
            have HB6 := Lib.hid (HBE.out.trans (hb6.mono hsz2))
            have hsz6 : w2.heap.size ≤ w6.heap.size := Nat.le_trans hszr hb6.size
            clear hbl6 hb6
            go_wp2_with fail
            refine (writeB_any w2.heap.size w2.heap.size _ (s[k].toNat : Int) w6 HL6.out (by rw [List.length_append, length_ints, length_ints, List.length_cons]; simp; omega) hsz6).mono ?_
            rintro e w7 ⟨rfl, hbl7, hb7⟩
            rw [← HE.out] at hbl7
            have HL7 := Lib.hid hbl7
            have HB7 := Lib.hid (HB6.out.trans (hb7.mono hsz2))
            have hsz7 : w2.heap.size ≤ w7.heap.size := Nat.le_trans hsz6 hb7.size
            clear hbl7 hb7
            go_wp2_with fail
            go_roundw
            case rel => exact ⟨k + 1, by omega, by go_num, HH2, HL7.out, HB7.out, hsz7⟩
            case measure => simp [intOf]; omega
          | false =>
            rw [he] at HMU
            have HE : Hid (ints .u8 (34 :: escN ((strL s).take (k + 1))) = ints .u8 (34 :: escN ((strL s).take k)) ++ ints .u8 [(s[k].toNat : Int)]) := Lib.hid (by
              rw [HNX, ← ints_append]
              unfold esc1
              rw [if_neg (of_decide_eq_false he)]; simp)
            clear HNX HG he HLO
            go_wp2_with fail
            refine (HMU.out _).mono ?_
            rintro e w5 ⟨rfl, rfl⟩
            go_wp2_with fail
            refine (writeB_any w2.heap.size w2.heap.size _ (s[k].toNat : Int) _ HBD.out (by rw [length_ints, List.length_cons]; omega) hszr).mono ?_
            rintro e w7 ⟨rfl, hbl7, hb7⟩
            rw [← HE.out] at hbl7
            have HL7 := Lib.hid hbl7
            have HB7 := Lib.hid (HBE.out.trans (hb7.mono hsz2))
            have hsz7 : w2.heap.size ≤ w7.heap.size := Nat.le_trans hszr hb7.size
            clear hbl7 hb7
            go_wp2_with fail
            go_roundw
            case rel => exact ⟨k + 1, by omega, by go_num, HH2, HL7.out, HB7.out, hsz7⟩
            case measure => simp [intOf]; omega
      · obtain rfl : k = s.size := by omega
        have hkI : ¬ (s.size : Int) < (s.size : Int) := by omega
        have htk : (strL s).take s.size = strL s := List.take_of_length_le (by rw [HL.out]; exact Nat.le_refl _)
        rw [htk] at HBD hel
        have HQ := Lib.hid (quote_yes (l := strL s) HBAD.out (by rw [HL.out]; exact HH.out))
        have HX : Hid (ints .u8 (34 :: escN (strL s)) ++ ints .u8 [34] = ints .u8 (34 :: (escN (strL s) ++ [34]))) := Lib.hid (by rw [← ints_append]; rfl)
        have HBY : Hid (Bytes (34 :: (escN (strL s) ++ [34]))) := Lib.hid (by have := quoteN_bytes (strL_bd s); rw [HQ.out] at this; exact this)
        clear htk
        go_wp2_with fail
        refine (writeB_any w2.heap.size w2.heap.size _ 34 _ HBD.out (by rw [length_ints, List.length_cons]; omega) hszr).mono ?_
        rintro e w7 ⟨rfl, hbl7, hb7⟩
        rw [HX.out] at hbl7
        have HL7 := Lib.hid hbl7
        have HB7 := Lib.hid (HBE.out.trans (hb7.mono hsz2))
        have hsz7 : w2.heap.size ≤ w7.heap.size := Nat.le_trans hszr hb7.size
        clear hbl7 hb7
        go_wp2_with fail
        refine (bldString w2.heap.size w2.heap.size _ w7 HBY.out HL7.out hsz7).mono ?_
        rintro e w8 ⟨rfl, hb8⟩
        have HB8 := Lib.hid (HB7.out.trans (hb8.mono hsz2))
        clear hb8
        go_wp2_with fail
        go_ret2
        rw [HQ.out]
        exact ⟨rfl, HB8.out⟩
end Go.Proofs.YtljdnjidphmkjaaDoor
