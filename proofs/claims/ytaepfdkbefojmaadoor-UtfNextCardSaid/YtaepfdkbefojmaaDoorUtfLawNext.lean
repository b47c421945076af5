/- The walks of the laws UtfNext and UtfChecks. -/
import Derived.Test.YtaepfdkbefojmaaDoorUtfAlive
namespace Go.Proofs.YtaepfdkbefojmaaDoor
open Go Go.RowKit

set_option maxRecDepth 100000 in
set_option maxHeartbeats 2000000 in
theorem lawNext_any (s : ByteArray) (n : Int) (w : World) (hg : ErrTab w) (hm : Marks w) (hs : s.size ≤ 9223372036854775807) :
    Calls Tryd.prog 3 #[.string s, .int .i64 n] w fun e w' => e = .returned (.bool true) ∧ Below w.heap.size w w' := by
  have HAL := Lib.hid (alive3_any w hg hm)
  have HM := Lib.hid hm
  have HNX := Lib.hid (fun (A : Option Addr) (c : Nat) (W : World) (hM : Marks W) (hc : s.size ≤ c) (hl : Lies W A (strL s)) => next_any A (strL s) s.size c W hM (length_strL s) hc hs (strL_bd s) hl)
  have HPU := Lib.hid (fun (W : World) (hM : Marks W) => put_any n W hM)
  have HRP := Lib.hid (fun (W : World) => refPut_any n W)
  obtain ⟨q, hq⟩ : ∃ q, q = min s.size 8 := ⟨_, rfl⟩
  have hq1 : q ≤ s.size := by omega
  have HRN := Lib.hid (fun (W : World) => refNext_any (s.extract 0 q) W (by rw [← length_strL, strL_extract, List.drop_zero, List.length_take, length_strL]; omega))
  have hnx : nxL (strL (s.extract 0 q)) = nxL (strL s) := by
    rw [strL_extract, List.drop_zero]
    by_cases h : 4 ≤ q
    · exact nx_take _ q h
    · rw [List.take_of_length_le (by rw [length_strL]; omega)]
  rw [hnx] at HRN
  obtain ⟨x, hx⟩ : ∃ x, x = (nxL (strL s)).1 := ⟨_, rfl⟩
  obtain ⟨m, hmm⟩ : ∃ m, m = (nxL (strL s)).2 := ⟨_, rfl⟩
  obtain ⟨T, hT⟩ : ∃ T, T = toS (putL n) := ⟨_, rfl⟩
  rw [← hx, ← hmm] at HNX HRN
  rw [← hT] at HPU HRP
  clear hx hmm hT hnx hg hm
  by_cases h8 : s.size ≤ 8
  · obtain rfl : q = s.size := by omega
    have hext : s.extract 0 s.size = s := strL_inj (by rw [strL_extract, List.drop_zero, List.take_of_length_le (by rw [length_strL]; exact Nat.le_refl _)])
    rw [hext] at HRN
    clear hq hext
    go_enter Tryd.func3, Tryd.ntmps3
    go_wp2_with (first
      | (go_at_call 7; refine HAL.out.mono ?_; rintro e w1 ⟨rfl, hB1⟩; have HB1 := Lib.hid hB1; clear hB1)
      | (refine wpList_convert_str rfl (some 13) rfl _ _ 5 (.tmp 12) rfl s rfl Tryd.underlying9 Tryd.underlying25 Tryd.underlying5 ?_; intro A1 c1 w2 hl1 hc1 hb; have HB2 := Lib.hid (HB1.out.trans (hb.mono HB1.out.size)); have HL1 := Lib.hid hl1; clear hb hl1; try go_frame)
      | (go_at_call 8; refine (HNX.out A1 c1 w2 (HM.out.below HB2.out) hc1 HL1.out).mono ?_; rintro e w3 ⟨rfl, hb⟩; have HB3 := Lib.hid (HB2.out.trans (hb.mono HB2.out.size)); clear hb)
      | (go_at_call 9; (with_reducible refine (HRN.out w3).mono ?_); rintro e w4 ⟨rfl, hb⟩; have HB4 := Lib.hid (HB3.out.trans (hb.mono HB3.out.size)); clear hb)
      | (go_at_call 10; refine (HPU.out w4 (HM.out.below HB4.out)).mono ?_; rintro e w5 ⟨rfl, hb⟩; have HB5 := Lib.hid (HB4.out.trans (hb.mono HB4.out.size)); clear hb)
      | (go_at_call 11; refine (HRP.out w5).mono ?_; rintro e w6 ⟨rfl, hb⟩; have HB6 := Lib.hid (HB5.out.trans (hb.mono HB5.out.size)); clear hb))
    go_ret
    exact ⟨rfl, HB6.out⟩
  · obtain rfl : q = 8 := by omega
    clear hq
    go_enter Tryd.func3, Tryd.ntmps3
    go_wp2_with (first
      | (go_at_call 7; refine HAL.out.mono ?_; rintro e w1 ⟨rfl, hB1⟩; have HB1 := Lib.hid hB1; clear hB1)
      | (refine wpList_convert_str rfl (some 13) rfl _ _ 5 (.tmp 12) rfl s rfl Tryd.underlying9 Tryd.underlying25 Tryd.underlying5 ?_; intro A1 c1 w2 hl1 hc1 hb; have HB2 := Lib.hid (HB1.out.trans (hb.mono HB1.out.size)); have HL1 := Lib.hid hl1; clear hb hl1; try go_frame)
      | (go_at_call 8; refine (HNX.out A1 c1 w2 (HM.out.below HB2.out) hc1 HL1.out).mono ?_; rintro e w3 ⟨rfl, hb⟩; have HB3 := Lib.hid (HB2.out.trans (hb.mono HB2.out.size)); clear hb)
      | (go_at_call 9; (with_reducible refine (HRN.out w3).mono ?_); rintro e w4 ⟨rfl, hb⟩; have HB4 := Lib.hid (HB3.out.trans (hb.mono HB3.out.size)); clear hb)
      | (go_at_call 10; refine (HPU.out w4 (HM.out.below HB4.out)).mono ?_; rintro e w5 ⟨rfl, hb⟩; have HB5 := Lib.hid (HB4.out.trans (hb.mono HB4.out.size)); clear hb)
      | (go_at_call 11; refine (HRP.out w5).mono ?_; rintro e w6 ⟨rfl, hb⟩; have HB6 := Lib.hid (HB5.out.trans (hb.mono HB5.out.size)); clear hb))
    go_ret
    exact ⟨rfl, HB6.out⟩
end Go.Proofs.YtaepfdkbefojmaaDoor
