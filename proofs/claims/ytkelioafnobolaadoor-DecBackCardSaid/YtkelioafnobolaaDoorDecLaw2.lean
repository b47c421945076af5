/- The walks of the laws DecBack and DecBounds. -/
import Derived.Test.YtkelioafnobolaaDoorDecLaw
namespace Go.Proofs.YtkelioafnobolaaDoor
open Go Go.RowKit

theorem prL_size (n : Int) (h0 : -9223372036854775808 ≤ n) (h1 : n ≤ 9223372036854775807) : (toS (prL n)).size ≤ 300 := by
  have := digL_len 19 n.natAbs (by omega)
  rw [size_toS]
  unfold prL
  split
  · rw [List.length_cons]; omega
  · omega
theorem strL_pr (n : Int) : strL (toS (prL n)) = prL n := strL_toS (prL_bytes n)
theorem fit_pr (n least most : Int) (h0 : -9223372036854775808 ≤ n ∧ n ≤ 9223372036854775807) : fitL (prL n) least most = decide (least ≤ n ∧ n ≤ most) := by
  unfold fitL
  rw [numL_prL, Bool.eq_iff_iff, decide_eq_true_eq, decide_eq_true_eq]
  omega
/-- Read of Print. -/
theorem read_print_in (n least most : Int) (w : World) (hn : -9223372036854775808 ≤ n ∧ n ≤ 9223372036854775807) (h0 : -9223372036854775808 ≤ least ∧ least ≤ 9223372036854775807) (h1 : -9223372036854775808 ≤ most ∧ most ≤ 9223372036854775807) (h : least ≤ n ∧ n ≤ most) :
    Calls Tryd.prog 10 #[.string (toS (prL n)), .int .i64 least, .int .i64 most] w fun e w' => e = .returned (.tuple #[.int .i64 n, .nilIface]) ∧ Below w.heap.size w w' := by
  have := read_right (s := toS (prL n)) least most w (prL_size n hn.1 hn.2) h0 h1 (by rw [strL_pr]; exact form_prL n) (by rw [strL_pr, fit_pr n _ _ hn]; exact decide_eq_true h)
  rwa [strL_pr, numL_prL] at this
theorem read_print_out (n least most : Int) (w : World) (hn : -9223372036854775808 ≤ n ∧ n ≤ 9223372036854775807) (h0 : -9223372036854775808 ≤ least ∧ least ≤ 9223372036854775807) (h1 : -9223372036854775808 ≤ most ∧ most ≤ 9223372036854775807) (h : ¬ (least ≤ n ∧ n ≤ most)) :
    Calls Tryd.prog 10 #[.string (toS (prL n)), .int .i64 least, .int .i64 most] w fun e w' => e = .returned (.tuple #[.int .i64 0, .iface 40 (.int .i64 41)]) ∧ Below w.heap.size w w' :=
  read_over (s := toS (prL n)) least most w (prL_size n hn.1 hn.2) h0 h1 (by rw [strL_pr]; exact form_prL n) (by rw [strL_pr, fit_pr n _ _ hn]; exact decide_eq_false h)

/-! ### DecBack -/
set_option maxRecDepth 100000 in
set_option maxHeartbeats 2000000 in
theorem back_long (n : Int) (s : ByteArray) (w : World) (hg : ErrTab w) (hn : -9223372036854775808 ≤ n ∧ n ≤ 9223372036854775807) (hs : s.size ≤ 9223372036854775807) (h : 300 < s.size) :
    Calls Tryd.prog 5 #[.int .i64 n, .string s] w fun e w' => e = .returned (.bool true) ∧ Below w.heap.size w w' := by
  have HAL := Lib.hid (alive4_any w hg)
  have HP := Lib.hid (fun W : World => print_any n W hn.1 hn.2)
  have HR := Lib.hid (fun W : World => read_print_in n (-9223372036854775808) 9223372036854775807 W hn (by decide) (by decide) hn)
  obtain ⟨T, hT⟩ : ∃ T, T = toS (prL n) := ⟨_, rfl⟩
  rw [← hT] at HP HR
  clear hT hg hn
  go_enter Tryd.func5, Tryd.ntmps5
  go_wp2_with (first
    | (go_at_call 7; refine HAL.out.mono ?_; rintro e w1 ⟨rfl, hB1⟩; have HB1 := Lib.hid hB1; clear hB1)
    | (go_at_call 8; (with_reducible refine (HP.out w1).mono ?_); rintro e w2 ⟨rfl, hb⟩; have HB2 := Lib.hid (HB1.out.trans (hb.mono HB1.out.size)); clear hb)
    | (go_at_call 10; (with_reducible refine (HR.out w2).mono ?_); rintro e w3 ⟨rfl, hb⟩; have HB3 := Lib.hid (HB2.out.trans (hb.mono HB2.out.size)); clear hb))
  go_ret
  exact ⟨rfl, HB3.out⟩
set_option maxRecDepth 100000 in
set_option maxHeartbeats 2000000 in
theorem back_wrong (n : Int) (s : ByteArray) (w : World) (hg : ErrTab w) (hn : -9223372036854775808 ≤ n ∧ n ≤ 9223372036854775807) (hs : s.size ≤ 300) (hf : formL (strL s) = false) :
    Calls Tryd.prog 5 #[.int .i64 n, .string s] w fun e w' => e = .returned (.bool true) ∧ Below w.heap.size w w' := by
  have HAL := Lib.hid (alive4_any w hg)
  have HP := Lib.hid (fun W : World => print_any n W hn.1 hn.2)
  have HR := Lib.hid (fun W : World => read_print_in n (-9223372036854775808) 9223372036854775807 W hn (by decide) (by decide) hn)
  have HRS := Lib.hid (fun W : World => read_wrong (s := s) (-9223372036854775808) 9223372036854775807 W hs (by decide) (by decide) hf)
  obtain ⟨p, hp⟩ : ∃ p : Int, p = (leadL (strL s) : Int) := ⟨_, rfl⟩
  rw [← hp] at HRS
  obtain ⟨T, hT⟩ : ∃ T, T = toS (prL n) := ⟨_, rfl⟩
  rw [← hT] at HP HR
  clear hT hg hn hf hp
  go_enter Tryd.func5, Tryd.ntmps5
  go_wp2_with (first
    | (go_at_call 7; refine HAL.out.mono ?_; rintro e w1 ⟨rfl, hB1⟩; have HB1 := Lib.hid hB1; clear hB1)
    | (go_at_call 8; (with_reducible refine (HP.out w1).mono ?_); rintro e w2 ⟨rfl, hb⟩; have HB2 := Lib.hid (HB1.out.trans (hb.mono HB1.out.size)); clear hb)
    | (go_at_call 10; (with_reducible refine (HR.out w2).mono ?_); rintro e w3 ⟨rfl, hb⟩; have HB3 := Lib.hid (HB2.out.trans (hb.mono HB2.out.size)); clear hb)
    | (go_at_call 10; (with_reducible refine (HRS.out w3).mono ?_); rintro e w4 ⟨v, rfl, b, rfl, c0, c1, hb⟩; have HB4 := Lib.hid (HB3.out.trans (hb.mono HB3.out.size)); clear hb c0 c1))
  go_ret
  exact ⟨rfl, HB4.out⟩
set_option maxRecDepth 100000 in
set_option maxHeartbeats 2000000 in
theorem back_over (n : Int) (s : ByteArray) (w : World) (hg : ErrTab w) (hn : -9223372036854775808 ≤ n ∧ n ≤ 9223372036854775807) (hs : s.size ≤ 300) (hf : formL (strL s) = true) (hft : fitL (strL s) (-9223372036854775808) 9223372036854775807 = false) :
    Calls Tryd.prog 5 #[.int .i64 n, .string s] w fun e w' => e = .returned (.bool true) ∧ Below w.heap.size w w' := by
  have HAL := Lib.hid (alive4_any w hg)
  have HP := Lib.hid (fun W : World => print_any n W hn.1 hn.2)
  have HR := Lib.hid (fun W : World => read_print_in n (-9223372036854775808) 9223372036854775807 W hn (by decide) (by decide) hn)
  have HRS := Lib.hid (fun W : World => read_over (s := s) (-9223372036854775808) 9223372036854775807 W hs (by decide) (by decide) hf hft)
  obtain ⟨T, hT⟩ : ∃ T, T = toS (prL n) := ⟨_, rfl⟩
  rw [← hT] at HP HR
  clear hT hg hn hf hft
  go_enter Tryd.func5, Tryd.ntmps5
  go_wp2_with (first
    | (go_at_call 7; refine HAL.out.mono ?_; rintro e w1 ⟨rfl, hB1⟩; have HB1 := Lib.hid hB1; clear hB1)
    | (go_at_call 8; (with_reducible refine (HP.out w1).mono ?_); rintro e w2 ⟨rfl, hb⟩; have HB2 := Lib.hid (HB1.out.trans (hb.mono HB1.out.size)); clear hb)
    | (go_at_call 10; (with_reducible refine (HR.out w2).mono ?_); rintro e w3 ⟨rfl, hb⟩; have HB3 := Lib.hid (HB2.out.trans (hb.mono HB2.out.size)); clear hb)
    | (go_at_call 10; (with_reducible refine (HRS.out w3).mono ?_); rintro e w4 ⟨rfl, hb⟩; have HB4 := Lib.hid (HB3.out.trans (hb.mono HB3.out.size)); clear hb))
  go_ret
  exact ⟨rfl, HB4.out⟩
set_option maxRecDepth 100000 in
set_option maxHeartbeats 2000000 in
theorem back_right (n : Int) (s : ByteArray) (w : World) (hg : ErrTab w) (hn : -9223372036854775808 ≤ n ∧ n ≤ 9223372036854775807) (hs : s.size ≤ 300) (hf : formL (strL s) = true) (hft : fitL (strL s) (-9223372036854775808) 9223372036854775807 = true) :
    Calls Tryd.prog 5 #[.int .i64 n, .string s] w fun e w' => e = .returned (.bool true) ∧ Below w.heap.size w w' := by
  have HAL := Lib.hid (alive4_any w hg)
  have HP := Lib.hid (fun W : World => print_any n W hn.1 hn.2)
  have HR := Lib.hid (fun W : World => read_print_in n (-9223372036854775808) 9223372036854775807 W hn (by decide) (by decide) hn)
  have HRS := Lib.hid (fun W : World => read_right (s := s) (-9223372036854775808) 9223372036854775807 W hs (by decide) (by decide) hf hft)
  have hb0 : -9223372036854775808 ≤ numL (strL s) ∧ numL (strL s) ≤ 9223372036854775807 := by
    unfold fitL at hft
    rw [decide_eq_true_eq] at hft
    exact ⟨hft.1, hft.2.1⟩
  have HP2 := Lib.hid (fun W : World => print_any (numL (strL s)) W hb0.1 hb0.2)
  rw [prL_numL hf, toS_strL] at HP2
  obtain ⟨T, hT⟩ : ∃ T, T = toS (prL n) := ⟨_, rfl⟩
  rw [← hT] at HP HR
  obtain ⟨z, hzz⟩ : ∃ z, z = numL (strL s) := ⟨_, rfl⟩
  rw [← hzz] at HRS HP2
  clear hT hg hn hf hft hb0 hzz
  go_enter Tryd.func5, Tryd.ntmps5
  go_wp2_with fail
  refine HAL.out.mono ?_
  rintro e w1 ⟨rfl, hB1⟩
  have HB1 := Lib.hid hB1
  clear hB1
  go_wp2_with fail
  refine (HP.out w1).mono ?_
  rintro e w2 ⟨rfl, hb⟩
  have HB2 := Lib.hid (HB1.out.trans (hb.mono HB1.out.size))
  clear hb
  go_wp2_with fail
  refine (HR.out w2).mono ?_
  rintro e w3 ⟨rfl, hb⟩
  have HB3 := Lib.hid (HB2.out.trans (hb.mono HB2.out.size))
  clear hb
  go_wp2_with fail
  refine (HRS.out w3).mono ?_
  rintro e w4 ⟨rfl, hb⟩
  have HB4 := Lib.hid (HB3.out.trans (hb.mono HB3.out.size))
  clear hb
  go_wp2_with fail
  refine (HP2.out w4).mono ?_
  rintro e w5 ⟨rfl, hb⟩
  have HB5 := Lib.hid (HB4.out.trans (hb.mono HB4.out.size))
  clear hb
  go_wp2_with fail
  go_ret
  exact ⟨rfl, HB5.out⟩
theorem lawBack_any (n : Int) (s : ByteArray) (w : World) (hg : ErrTab w) (hn : -9223372036854775808 ≤ n ∧ n ≤ 9223372036854775807) (hs : s.size ≤ 9223372036854775807) :
    Calls Tryd.prog 5 #[.int .i64 n, .string s] w fun e w' => e = .returned (.bool true) ∧ Below w.heap.size w w' := by
  rcases Nat.lt_or_ge 300 s.size with h | h
  · exact back_long n s w hg hn hs h
  · cases hf : formL (strL s) with
    | false => exact back_wrong n s w hg hn h hf
    | true =>
      cases hft : fitL (strL s) (-9223372036854775808) 9223372036854775807 with
      | false => exact back_over n s w hg hn h hf hft
      | true => exact back_right n s w hg hn h hf hft

/-! ### DecBounds -/
set_option maxRecDepth 100000 in
set_option maxHeartbeats 2000000 in
theorem lawBounds_any (n least most : Int) (w : World) (hg : ErrTab w) (hn : -9223372036854775808 ≤ n ∧ n ≤ 9223372036854775807) (h0 : -9223372036854775808 ≤ least ∧ least ≤ 9223372036854775807) (h1 : -9223372036854775808 ≤ most ∧ most ≤ 9223372036854775807) :
    Calls Tryd.prog 6 #[.int .i64 n, .int .i64 least, .int .i64 most] w fun e w' => e = .returned (.bool true) ∧ Below w.heap.size w w' := by
  have HAL := Lib.hid (alive4_any w hg)
  have HG := Lib.hid hg
  have HP := Lib.hid (fun W : World => print_any n W hn.1 hn.2)
  by_cases h : least ≤ n ∧ n ≤ most
  · have HR := Lib.hid (fun W : World => read_print_in n least most W hn h0 h1 h)
    obtain ⟨T, hT⟩ : ∃ T, T = toS (prL n) := ⟨_, rfl⟩
    rw [← hT] at HP HR
    obtain ⟨h2, h3⟩ := h
    clear hT hg hn
    go_enter Tryd.func6, Tryd.ntmps6
    go_wp2_with (first
      | (go_at_call 7; refine HAL.out.mono ?_; rintro e w1 ⟨rfl, hB1⟩; have HB1 := Lib.hid hB1; clear hB1)
      | (go_at_call 8; (with_reducible refine (HP.out w1).mono ?_); rintro e w2 ⟨rfl, hb⟩; have HB2 := Lib.hid (HB1.out.trans (hb.mono HB1.out.size)); clear hb)
      | (go_at_call 10; (with_reducible refine (HR.out w2).mono ?_); rintro e w3 ⟨rfl, hb⟩; have HB3 := Lib.hid (HB2.out.trans (hb.mono HB2.out.size)); clear hb))
    go_ret
    exact ⟨rfl, HB3.out⟩
  · have HR := Lib.hid (fun W : World => read_print_out n least most W hn h0 h1 h)
    obtain ⟨T, hT⟩ : ∃ T, T = toS (prL n) := ⟨_, rfl⟩
    rw [← hT] at HP HR
    by_cases h2 : n < least
    · clear hT hg hn h
      go_enter Tryd.func6, Tryd.ntmps6
      go_wp2_with (first
        | (go_at_call 7; refine HAL.out.mono ?_; rintro e w1 ⟨rfl, hB1⟩; have HB1 := Lib.hid hB1; clear hB1)
        | (go_at_call 8; (with_reducible refine (HP.out w1).mono ?_); rintro e w2 ⟨rfl, hb⟩; have HB2 := Lib.hid (HB1.out.trans (hb.mono HB1.out.size)); clear hb)
        | (go_at_call 10; (with_reducible refine (HR.out w2).mono ?_); rintro e w3 ⟨rfl, hb⟩; have HB3 := Lib.hid (HB2.out.trans (hb.mono HB2.out.size)); clear hb)
        | (go_at_call 12; refine (num_errno 41 w3 (HG.out.below HB3.out)).mono ?_; rintro e w4 ⟨rfl, hb⟩; have HB4 := Lib.hid (HB3.out.trans (hb.mono HB3.out.size)); clear hb))
      go_ret
      exact ⟨rfl, HB4.out⟩
    · have h3 : most < n := by omega
      clear hT hg hn h
      go_enter Tryd.func6, Tryd.ntmps6
      go_wp2_with (first
        | (go_at_call 7; refine HAL.out.mono ?_; rintro e w1 ⟨rfl, hB1⟩; have HB1 := Lib.hid hB1; clear hB1)
        | (go_at_call 8; (with_reducible refine (HP.out w1).mono ?_); rintro e w2 ⟨rfl, hb⟩; have HB2 := Lib.hid (HB1.out.trans (hb.mono HB1.out.size)); clear hb)
        | (go_at_call 10; (with_reducible refine (HR.out w2).mono ?_); rintro e w3 ⟨rfl, hb⟩; have HB3 := Lib.hid (HB2.out.trans (hb.mono HB2.out.size)); clear hb)
        | (go_at_call 12; refine (num_errno 41 w3 (HG.out.below HB3.out)).mono ?_; rintro e w4 ⟨rfl, hb⟩; have HB4 := Lib.hid (HB3.out.trans (hb.mono HB3.out.size)); clear hb))
      go_ret
      exact ⟨rfl, HB4.out⟩
end Go.Proofs.YtkelioafnobolaaDoor
