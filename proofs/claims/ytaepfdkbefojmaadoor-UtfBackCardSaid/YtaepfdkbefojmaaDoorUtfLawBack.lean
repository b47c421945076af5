/- The walk of the law UtfBack. -/
import Derived.Test.YtaepfdkbefojmaaDoorUtfAlive
import Derived.Test.YtaepfdkbefojmaaDoorUtfMath2
namespace Go.Proofs.YtaepfdkbefojmaaDoor
open Go Go.RowKit

set_option maxRecDepth 100000 in
theorem back_none (n : Int) (s : ByteArray) (w : World) (hg : ErrTab w) (hm : Marks w) (hs : s.size ≤ 9223372036854775807) (h : n < 0 ∨ 1114111 < n ∨ (55296 ≤ n ∧ n ≤ 57343)) :
    Calls Tryd.prog 6 #[.int .i64 n, .string s] w fun e w' => e = .returned (.bool true) ∧ Below w.heap.size w w' := by
  have HAL := Lib.hid (alive3_any w hg hm)
  have HM := Lib.hid hm
  have HPU := Lib.hid (fun (W : World) (hM : Marks W) => put_any n W hM)
  rw [show toS (putL n) = ⟨#[]⟩ by rw [putL_none h]; rfl] at HPU
  clear hg hm
  rcases h with h | h | ⟨h, h'⟩
  all_goals
    go_enter Tryd.func6, Tryd.ntmps6
    go_wp2_with (first
      | (go_at_call 7; refine HAL.out.mono ?_; rintro e w1 ⟨rfl, hB1⟩; have HB1 := Lib.hid hB1; clear hB1)
      | (go_at_call 10; refine (HPU.out w1 (HM.out.below HB1.out)).mono ?_; rintro e w5 ⟨rfl, hb⟩; have HB5 := Lib.hid (HB1.out.trans (hb.mono HB1.out.size)); clear hb))
    go_ret
    exact ⟨rfl, HB5.out⟩
set_option maxRecDepth 100000 in
theorem back_long (n : Int) (s : ByteArray) (w : World) (hg : ErrTab w) (hm : Marks w) (hs : s.size ≤ 9223372036854775807) (h : putL n ≠ []) (hl : 5000 < s.size) :
    Calls Tryd.prog 6 #[.int .i64 n, .string s] w fun e w' => e = .returned (.bool true) ∧ Below w.heap.size w w' := by
  have HAL := Lib.hid (alive3_any w hg hm)
  have HM := Lib.hid hm
  have HPU := Lib.hid (fun (W : World) (hM : Marks W) => put_any n W hM)
  have hE := notEmpty (s := toS (putL n)) (by rw [size_toS]; exact List.length_pos_iff.2 h)
  obtain ⟨T, hT⟩ : ∃ T, T = toS (putL n) := ⟨_, rfl⟩
  rw [← hT] at HPU hE
  clear hg hm hT h
  go_enter Tryd.func6, Tryd.ntmps6
  go_wp2_with (first
    | (go_at_call 7; refine HAL.out.mono ?_; rintro e w1 ⟨rfl, hB1⟩; have HB1 := Lib.hid hB1; clear hB1)
    | (go_at_call 10; refine (HPU.out w1 (HM.out.below HB1.out)).mono ?_; rintro e w5 ⟨rfl, hb⟩; have HB5 := Lib.hid (HB1.out.trans (hb.mono HB1.out.size)); clear hb))
  go_ret
  exact ⟨rfl, HB5.out⟩
set_option maxRecDepth 100000 in
set_option maxHeartbeats 4000000 in
theorem back_letter (n : Int) (s : ByteArray) (w : World) (hg : ErrTab w) (hm : Marks w) (h : putL n ≠ []) (hs : s.size ≤ 5000) :
    Calls Tryd.prog 6 #[.int .i64 n, .string s] w fun e w' => e = .returned (.bool true) ∧ Below w.heap.size w w' := by
  have HAL := Lib.hid (alive3_any w hg hm)
  have HM := Lib.hid hm
  have HPU := Lib.hid (fun (W : World) (hM : Marks W) => put_any n W hM)
  have hE := notEmpty (s := toS (putL n)) (by rw [size_toS]; exact List.length_pos_iff.2 h)
  have hpl := putL_len n
  have hpp : 0 < (putL n).length := List.length_pos_iff.2 h
  have hST : strL (toS (putL n)) = putL n := strL_toS (putL_bytes n)
  have hsz : (toS (putL n)).size = (putL n).length := size_toS _
  have HJ : Hid (strL (toS (putL n) ++ s) = putL n ++ strL s) := Lib.hid (by rw [strL_append, hST])
  have hjs : (toS (putL n) ++ s).size = (putL n).length + s.size := by rw [← length_strL, HJ.out, List.length_append, length_strL]
  have HNX := Lib.hid (fun (A : Option Addr) (c : Nat) (W : World) (hM : Marks W) (hc : (putL n).length + s.size ≤ c) (hl : Lies W A (strL (toS (putL n) ++ s))) => next_any A (strL (toS (putL n) ++ s)) ((putL n).length + s.size) c W hM ((length_strL _).trans hjs) hc (by omega) (strL_bd _) hl)
  have HJS := Lib.hid hjs
  rw [HJ.out, nx_put h] at HNX
  have HFR := Lib.hid (fun (i : Nat) (h1 : 1 ≤ i) (h2 : i < (putL n).length) (A : Option Addr) (c : Nat) (W : World) (hM : Marks W) (hc : i ≤ c) (hl : Lies W A ((putL n).take i)) => by
    have := next_any A ((putL n).take i) i c W hM (by rw [List.length_take]; omega) hc (by omega) ((putL_bytes n).take i) hl
    rw [nx_front h1 h2] at this
    exact this)
  have HBK := Lib.hid (fun (i : Nat) (h1 : 1 ≤ i) (h2 : i < (putL n).length) (A : Option Addr) (c : Nat) (W : World) (hM : Marks W) (hc : (putL n).length - i ≤ c) (hl : Lies W A ((putL n).drop i)) => by
    have := next_any A ((putL n).drop i) ((putL n).length - i) c W hM List.length_drop hc (by omega) ((putL_bytes n).drop i) hl
    rw [nx_back h1 h2] at this
    exact this)
  have HE1 := Lib.hid (fun (i : Nat) => show strL ((toS (putL n)).extract 0 i) = (putL n).take i by rw [strL_extract, hST, List.drop_zero])
  have HE2 := Lib.hid (fun (i : Nat) => show strL ((toS (putL n)).extract i (putL n).length) = (putL n).drop i by rw [strL_extract, hST, List.take_length])
  obtain ⟨T, hT⟩ : ∃ T, T = toS (putL n) := ⟨_, rfl⟩
  obtain ⟨k, hk⟩ : ∃ k, k = (putL n).length := ⟨_, rfl⟩
  rw [← hk] at HNX
  rw [← hT] at HJ
  rw [← hT, ← hk] at hsz HJS HE2
  rw [← hk] at HFR HBK
  rw [← hT] at HPU hE HE1
  rw [← hk] at hpl hpp
  have hadd : T.size + s.size ≤ 9223372036854775807 := by omega
  have HFRB := Lib.hid (And.intro HFR.out HBK.out)
  obtain ⟨L, hL⟩ : ∃ L, L = putL n := ⟨_, rfl⟩
  rw [← hL] at HNX HFRB HE1 HE2 HJ
  have HLK : Hid (L.length = k) := Lib.hid (by rw [hL, hk])
  have hd1 : decide (5000 < (s.size : Int)) = false := decide_eq_false (by omega)
  have hd2 : decide (4 < (k : Int)) = false := decide_eq_false (by omega)
  clear hg hm hT h hk hjs hST HFR HBK hL
  go_enter Tryd.func6, Tryd.ntmps6
  go_wp2_with (first
    | (go_at_call 7; refine HAL.out.mono ?_; rintro e w1 ⟨rfl, hB1⟩; have HB1 := Lib.hid hB1; clear hB1)
    | (go_at_call 10; refine (HPU.out w1 (HM.out.below HB1.out)).mono ?_; rintro e w5 ⟨rfl, hb⟩; have HB5 := Lib.hid (HB1.out.trans (hb.mono HB1.out.size)); clear hb)
    | (refine wpList_convert_strN rfl (some 40) rfl _ _ 5 (.tmp 39) rfl (T ++ s) (k + s.size) HJS.out rfl Tryd.underlying9 Tryd.underlying25 Tryd.underlying5 ?_; intro A1 c1 w2 hl1 hc1 hb; have HB2 := Lib.hid (HB5.out.trans (hb.mono HB5.out.size)); have hl2 : Lies w2 A1 (L ++ strL s) := (by rw [← HJ.out]; exact hl1); have HL1 := Lib.hid (And.intro hc1 hl2); clear hb hl1 hl2 hc1; try go_frame)
    | (go_at_call 8; (with_reducible refine (HNX.out A1 c1 w2 (HM.out.below HB2.out) HL1.out.1 HL1.out.2).mono ?_); rintro e w3 ⟨rfl, hb⟩; have HB3 := Lib.hid (HB2.out.trans (hb.mono HB2.out.size)); clear hb))
  go_loopw [8] (fun v wr => ∃ j : Nat, 1 ≤ j ∧ j ≤ k ∧ v = .int .i64 (j : Int) ∧ Below w.heap.size w wr) (fun v _ => k - (intOf v).toNat)
  case atStart => exact ⟨1, by omega, by omega, rfl, HB3.out⟩
  case round =>
    obtain ⟨j, hj1, hjk, rfl, hbel⟩ := hrel
    have HB := Lib.hid hbel
    clear hbel
    by_cases hlt : j < k
    · have HS1 : Hid ((T.extract 0 j).size = j) := Lib.hid (by rw [← length_strL, HE1.out, List.length_take, HLK.out]; omega)
      have HS2 : Hid ((T.extract j k).size = k - j) := Lib.hid (by rw [← length_strL, HE2.out, List.length_drop, HLK.out])
      go_wp2_with (first
        | (refine wpList_convert_strN rfl (some 68) rfl _ _ 5 (.tmp 67) rfl (T.extract 0 j) j HS1.out rfl Tryd.underlying9 Tryd.underlying25 Tryd.underlying5 ?_; intro A4 c4 w4 hl4 hc4 hb; have HB4 := Lib.hid (HB.out.trans (hb.mono HB.out.size)); rw [HE1.out] at hl4; have HL4 := Lib.hid (And.intro hc4 hl4); clear hb hl4 hc4; try go_frame)
        | fail)
      refine (HFRB.out.1 j hj1 hlt A4 c4 w4 (HM.out.below HB4.out) HL4.out.1 HL4.out.2).mono ?_
      rintro e w5 ⟨rfl, hb⟩
      have HB5 := Lib.hid (HB4.out.trans (hb.mono HB4.out.size))
      clear hb
      go_wp2_with (first
        | (refine wpList_convert_strN rfl (some 76) rfl _ _ 5 (.tmp 75) rfl (T.extract j k) (k - j) HS2.out rfl Tryd.underlying9 Tryd.underlying25 Tryd.underlying5 ?_; intro A6 c6 w6 hl6 hc6 hb; have HB6 := Lib.hid (HB5.out.trans (hb.mono HB5.out.size)); rw [HE2.out] at hl6; have HL6 := Lib.hid (And.intro hc6 hl6); clear hb hl6 hc6; try go_frame)
        | fail)
      refine (HFRB.out.2 j hj1 hlt A6 c6 w6 (HM.out.below HB6.out) HL6.out.1 HL6.out.2).mono ?_
      rintro e w7 ⟨rfl, hb⟩
      have HB7 := Lib.hid (HB6.out.trans (hb.mono HB6.out.size))
      clear hb
      go_wp2_with fail
      go_roundw
      case rel => exact ⟨j + 1, by omega, by omega, by go_num, HB7.out⟩
      case measure => simp [intOf]; omega
    · obtain rfl : j = k := by omega
      go_wp2
      go_ret
      exact ⟨rfl, HB.out⟩
theorem lawBack_any (n : Int) (s : ByteArray) (w : World) (hg : ErrTab w) (hm : Marks w) (hs : s.size ≤ 9223372036854775807) :
    Calls Tryd.prog 6 #[.int .i64 n, .string s] w fun e w' => e = .returned (.bool true) ∧ Below w.heap.size w w' := by
  by_cases h : putL n = []
  · exact back_none n s w hg hm hs (putL_nil h)
  · rcases Nat.lt_or_ge 5000 s.size with h1 | h1
    · exact back_long n s w hg hm hs h h1
    · exact back_letter n s w hg hm h h1
end Go.Proofs.YtaepfdkbefojmaaDoor
