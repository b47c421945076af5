/- The walks of layer 4's alive and laws. -/
import Derived.Test.YtkelioafnobolaaDoorDecProg
namespace Go.Proofs.YtkelioafnobolaaDoor
open Go Go.RowKit

theorem read_wrong {s : ByteArray} (least most : Int) (w : World) (hs : s.size ≤ 300) (h0 : -9223372036854775808 ≤ least ∧ least ≤ 9223372036854775807) (h1 : -9223372036854775808 ≤ most ∧ most ≤ 9223372036854775807) (hf : formL (strL s) = false) :
    Calls Tryd.prog 10 #[.string s, .int .i64 least, .int .i64 most] w (ReadWrong (leadL (strL s) : Int) w) :=
  (read_any s least most w hs h0 h1).mono fun e w' h => by
    rcases h with ⟨_, h⟩ | ⟨h, _⟩ | ⟨h, _⟩
    · exact h
    · rw [hf] at h; cases h
    · rw [hf] at h; cases h
theorem read_over {s : ByteArray} (least most : Int) (w : World) (hs : s.size ≤ 300) (h0 : -9223372036854775808 ≤ least ∧ least ≤ 9223372036854775807) (h1 : -9223372036854775808 ≤ most ∧ most ≤ 9223372036854775807) (hf : formL (strL s) = true) (hft : fitL (strL s) least most = false) :
    Calls Tryd.prog 10 #[.string s, .int .i64 least, .int .i64 most] w fun e w' => e = .returned (.tuple #[.int .i64 0, .iface 40 (.int .i64 41)]) ∧ Below w.heap.size w w' :=
  (read_any s least most w hs h0 h1).mono fun e w' h => by
    rcases h with ⟨h, _⟩ | ⟨_, _, h⟩ | ⟨_, h, _⟩
    · rw [hf] at h; cases h
    · exact h
    · rw [hft] at h; cases h
theorem read_right {s : ByteArray} (least most : Int) (w : World) (hs : s.size ≤ 300) (h0 : -9223372036854775808 ≤ least ∧ least ≤ 9223372036854775807) (h1 : -9223372036854775808 ≤ most ∧ most ≤ 9223372036854775807) (hf : formL (strL s) = true) (hft : fitL (strL s) least most = true) :
    Calls Tryd.prog 10 #[.string s, .int .i64 least, .int .i64 most] w fun e w' => e = .returned (.tuple #[.int .i64 (numL (strL s)), .nilIface]) ∧ Below w.heap.size w w' :=
  (read_any s least most w hs h0 h1).mono fun e w' h => by
    rcases h with ⟨h, _⟩ | ⟨_, h, _⟩ | ⟨_, _, h⟩
    · rw [hf] at h; cases h
    · rw [hft] at h; cases h
    · exact h

set_option maxRecDepth 100000 in
set_option maxHeartbeats 1000000 in
theorem alive4_any (w : World) (hg : ErrTab w) : Calls Tryd.prog 7 #[] w fun e w' => e = .returned (.bool true) ∧ Below w.heap.size w w' := by
  have HR1 := Lib.hid (fun W : World => read_wrong (s := ⟨#[48, 48, 55]⟩) 0 9 W (by decide) (by decide) (by decide) (by decide))
  rw [show leadL (strL ⟨#[48, 48, 55]⟩) = 1 by decide] at HR1
  have HR2 := Lib.hid (fun W : World => read_over (s := ⟨#[57, 50, 50, 51, 51, 55, 50, 48, 51, 54, 56, 53, 52, 55, 55, 53, 56, 48, 56]⟩) (-9223372036854775808) 9223372036854775807 W (by decide) (by decide) (by decide) (by decide) (by decide))
  have HP := Lib.hid (fun W : World => print_any (-9223372036854775808) W (by decide) (by decide))
  rw [← txt_min] at HP
  have HL := Lib.hid (fun W : World => lead_any ⟨#[49, 50, 97]⟩ W (by decide))
  rw [show leadL (strL ⟨#[49, 50, 97]⟩) = 2 by decide] at HL
  have HG := Lib.hid hg
  clear hg
  go_enter Tryd.func7, Tryd.ntmps7
  go_wp2_with fail
  refine (HR1.out w).mono ?_
  rintro e w1 ⟨v, rfl, b, rfl, h0, h1, hb⟩
  have HB1 := Lib.hid hb
  have HC1 := Lib.hid (And.intro h0 h1)
  clear hb h0 h1
  go_wp2_with fail
  refine (HR2.out w1).mono ?_
  rintro e w2 ⟨rfl, hb⟩
  have HB2 := Lib.hid (HB1.out.trans (hb.mono HB1.out.size))
  have HC2 := Lib.hid (And.intro ((hb.cell (p := ⟨b, 0, none⟩) (lt_of_cell HC1.out.1)).trans HC1.out.1) ((hb.cell (p := ⟨b, 0 + 1, none⟩) (lt_of_cell HC1.out.2)).trans HC1.out.2))
  clear hb
  go_wp2_with fail
  refine (HP.out w2).mono ?_
  rintro e w3 ⟨rfl, hb⟩
  have HB3 := Lib.hid (HB2.out.trans (hb.mono HB2.out.size))
  have HC3 := Lib.hid (And.intro ((hb.cell (p := ⟨b, 0, none⟩) (lt_of_cell HC2.out.1)).trans HC2.out.1) ((hb.cell (p := ⟨b, 0 + 1, none⟩) (lt_of_cell HC2.out.2)).trans HC2.out.2))
  clear hb
  go_wp2_with fail
  refine (num_at 40 b 0 w3 (HG.out.below HB3.out) HC3.out.2).mono ?_
  rintro e w4 ⟨rfl, hb⟩
  have HB4 := Lib.hid (HB3.out.trans (hb.mono HB3.out.size))
  have HC4 := Lib.hid ((hb.cell (p := ⟨b, 0, none⟩) (lt_of_cell HC3.out.1)).trans HC3.out.1)
  clear hb
  go_wp2_with fail
  refine (pos_at 1 b 0 w4 (HG.out.below HB4.out) HC4.out).mono ?_
  rintro e w5 ⟨rfl, hb⟩
  have HB5 := Lib.hid (HB4.out.trans (hb.mono HB4.out.size))
  clear hb
  go_wp2_with fail
  refine (num_errno 41 w5 (HG.out.below HB5.out)).mono ?_
  rintro e w6 ⟨rfl, hb⟩
  have HB6 := Lib.hid (HB5.out.trans (hb.mono HB5.out.size))
  clear hb
  go_wp2_with fail
  refine (HL.out w6).mono ?_
  rintro e w7 ⟨rfl, hb⟩
  have HB7 := Lib.hid (HB6.out.trans (hb.mono HB6.out.size))
  clear hb
  go_wp2_with fail
  go_ret
  exact ⟨rfl, HB7.out⟩

/-! ### DecPrints -/
set_option maxRecDepth 100000 in
theorem lawPrints_any (n : Int) (w : World) (hg : ErrTab w) (h0 : -9223372036854775808 ≤ n ∧ n ≤ 9223372036854775807) :
    Calls Tryd.prog 3 #[.int .i64 n] w fun e w' => e = .returned (.bool true) ∧ Below w.heap.size w w' := by
  have HAL := Lib.hid (alive4_any w hg)
  have HP := Lib.hid (fun W : World => print_any n W h0.1 h0.2)
  have HRP := Lib.hid (fun W : World => refPrint_any n W h0.1 h0.2)
  obtain ⟨T, hT⟩ : ∃ T, T = toS (prL n) := ⟨_, rfl⟩
  rw [← hT] at HP HRP
  clear hT hg
  go_enter Tryd.func3, Tryd.ntmps3
  go_wp2_with (first
    | (go_at_call 7; refine HAL.out.mono ?_; rintro e w1 ⟨rfl, hB1⟩; have HB1 := Lib.hid hB1; clear hB1)
    | (go_at_call 8; (with_reducible refine (HP.out w1).mono ?_); rintro e w2 ⟨rfl, hb⟩; have HB2 := Lib.hid (HB1.out.trans (hb.mono HB1.out.size)); clear hb)
    | (go_at_call 9; (with_reducible refine (HRP.out w2).mono ?_); rintro e w3 ⟨rfl, hb⟩; have HB3 := Lib.hid (HB2.out.trans (hb.mono HB2.out.size)); clear hb))
  go_ret
  exact ⟨rfl, HB3.out⟩

/-! ### DecReads -/
set_option maxRecDepth 100000 in
theorem reads_long (s : ByteArray) (least most : Int) (w : World) (hg : ErrTab w) (hs : s.size ≤ 9223372036854775807) (h : 300 < s.size) :
    Calls Tryd.prog 4 #[.string s, .int .i64 least, .int .i64 most] w fun e w' => e = .returned (.bool true) ∧ Below w.heap.size w w' := by
  have HAL := Lib.hid (alive4_any w hg)
  clear hg
  go_enter Tryd.func4, Tryd.ntmps4
  go_wp2_with (go_at_call 7; refine HAL.out.mono ?_; rintro e w1 ⟨rfl, hB1⟩)
  go_ret
  exact ⟨rfl, hB1⟩
set_option maxRecDepth 100000 in
set_option maxHeartbeats 2000000 in
theorem reads_wrong (s : ByteArray) (least most : Int) (w : World) (hg : ErrTab w) (h0 : -9223372036854775808 ≤ least ∧ least ≤ 9223372036854775807) (h1 : -9223372036854775808 ≤ most ∧ most ≤ 9223372036854775807) (hs : s.size ≤ 300) (hf : formL (strL s) = false) :
    Calls Tryd.prog 4 #[.string s, .int .i64 least, .int .i64 most] w fun e w' => e = .returned (.bool true) ∧ Below w.heap.size w w' := by
  have HAL := Lib.hid (alive4_any w hg)
  have HG := Lib.hid hg
  have HRD := Lib.hid (fun W : World => read_wrong (s := s) least most W hs h0 h1 hf)
  have HRR := Lib.hid (fun W : World => refRead_any s least most W hs h0.1 h1.2)
  rw [show readsL (strL s) least most = .tuple #[.int .i64 0, .int .i64 40, .int .i64 (leadL (strL s) : Int)] by unfold readsL; rw [if_neg (by rw [hf]; decide)]] at HRR
  have HLD := Lib.hid (fun W : World => lead_any s W hs)
  have HRL := Lib.hid (fun W : World => refLead_any s W (by omega))
  obtain ⟨p, hp⟩ : ∃ p : Int, p = (leadL (strL s) : Int) := ⟨_, rfl⟩
  rw [← hp] at HRD HRR HLD HRL
  clear hg hf hp
  go_enter Tryd.func4, Tryd.ntmps4
  go_wp2_with (first
    | (go_at_call 7; refine HAL.out.mono ?_; rintro e w1 ⟨rfl, hB1⟩; have HB1 := Lib.hid hB1; clear hB1)
    | (go_at_call 10; (with_reducible refine (HRD.out w1).mono ?_); rintro e w2 ⟨v, rfl, b, rfl, c0, c1, hb⟩; have HC := Lib.hid (And.intro c0 c1); have HB2 := Lib.hid (HB1.out.trans (hb.mono HB1.out.size)); clear hb c0 c1)
    | (go_at_call 11; (with_reducible refine (HRR.out w2).mono ?_); rintro e w' ⟨rfl, rfl⟩)
    | (go_at_call 12; refine (num_at 40 b 0 w2 (HG.out.below HB2.out) HC.out.2).mono ?_; rintro e w3 ⟨rfl, hb⟩; have HC3 := Lib.hid ((hb.cell (p := ⟨b, 0, none⟩) (lt_of_cell HC.out.1)).trans HC.out.1); have HB3 := Lib.hid (HB2.out.trans (hb.mono HB2.out.size)); clear hb)
    | (go_at_call 13; refine (pos_at p b 0 w3 (HG.out.below HB3.out) HC3.out).mono ?_; rintro e w4 ⟨rfl, hb⟩; have HB4 := Lib.hid (HB3.out.trans (hb.mono HB3.out.size)); clear hb)
    | (go_at_call 14; (with_reducible refine (HLD.out w4).mono ?_); rintro e w5 ⟨rfl, hb⟩; have HB5 := Lib.hid (HB4.out.trans (hb.mono HB4.out.size)); clear hb)
    | (go_at_call 15; (with_reducible refine (HRL.out w5).mono ?_); rintro e w' ⟨rfl, rfl⟩))
  go_ret
  exact ⟨rfl, HB5.out⟩
set_option maxRecDepth 100000 in
set_option maxHeartbeats 2000000 in
theorem reads_over (s : ByteArray) (least most : Int) (w : World) (hg : ErrTab w) (h0 : -9223372036854775808 ≤ least ∧ least ≤ 9223372036854775807) (h1 : -9223372036854775808 ≤ most ∧ most ≤ 9223372036854775807) (hs : s.size ≤ 300) (hf : formL (strL s) = true) (hft : fitL (strL s) least most = false) :
    Calls Tryd.prog 4 #[.string s, .int .i64 least, .int .i64 most] w fun e w' => e = .returned (.bool true) ∧ Below w.heap.size w w' := by
  have HAL := Lib.hid (alive4_any w hg)
  have HG := Lib.hid hg
  have HRD := Lib.hid (fun W : World => read_over (s := s) least most W hs h0 h1 hf hft)
  have HRR := Lib.hid (fun W : World => refRead_any s least most W hs h0.1 h1.2)
  rw [show readsL (strL s) least most = .tuple #[.int .i64 0, .int .i64 41, .int .i64 (-1)] by unfold readsL; rw [if_pos hf, if_neg (by rw [hft]; decide)]] at HRR
  have HLD := Lib.hid (fun W : World => lead_any s W hs)
  have HRL := Lib.hid (fun W : World => refLead_any s W (by omega))
  obtain ⟨p, hp⟩ : ∃ p : Int, p = (leadL (strL s) : Int) := ⟨_, rfl⟩
  rw [← hp] at HLD HRL
  clear hg hf hft hp
  go_enter Tryd.func4, Tryd.ntmps4
  go_wp2_with (first
    | (go_at_call 7; refine HAL.out.mono ?_; rintro e w1 ⟨rfl, hB1⟩; have HB1 := Lib.hid hB1; clear hB1)
    | (go_at_call 10; (with_reducible refine (HRD.out w1).mono ?_); rintro e w2 ⟨rfl, hb⟩; have HB2 := Lib.hid (HB1.out.trans (hb.mono HB1.out.size)); clear hb)
    | (go_at_call 11; (with_reducible refine (HRR.out w2).mono ?_); rintro e w' ⟨rfl, rfl⟩)
    | (go_at_call 12; refine (num_errno 41 w2 (HG.out.below HB2.out)).mono ?_; rintro e w3 ⟨rfl, hb⟩; have HB3 := Lib.hid (HB2.out.trans (hb.mono HB2.out.size)); clear hb)
    | (go_at_call 13; refine (pos_errno 41 w3 (HG.out.below HB3.out)).mono ?_; rintro e w4 ⟨rfl, hb⟩; have HB4 := Lib.hid (HB3.out.trans (hb.mono HB3.out.size)); clear hb)
    | (go_at_call 14; (with_reducible refine (HLD.out w4).mono ?_); rintro e w5 ⟨rfl, hb⟩; have HB5 := Lib.hid (HB4.out.trans (hb.mono HB4.out.size)); clear hb)
    | (go_at_call 15; (with_reducible refine (HRL.out w5).mono ?_); rintro e w' ⟨rfl, rfl⟩))
  go_ret
  exact ⟨rfl, HB5.out⟩
set_option maxRecDepth 100000 in
set_option maxHeartbeats 2000000 in
theorem reads_right (s : ByteArray) (least most : Int) (w : World) (hg : ErrTab w) (h0 : -9223372036854775808 ≤ least ∧ least ≤ 9223372036854775807) (h1 : -9223372036854775808 ≤ most ∧ most ≤ 9223372036854775807) (hs : s.size ≤ 300) (hf : formL (strL s) = true) (hft : fitL (strL s) least most = true) :
    Calls Tryd.prog 4 #[.string s, .int .i64 least, .int .i64 most] w fun e w' => e = .returned (.bool true) ∧ Below w.heap.size w w' := by
  have HAL := Lib.hid (alive4_any w hg)
  have HRD := Lib.hid (fun W : World => read_right (s := s) least most W hs h0 h1 hf hft)
  have HRR := Lib.hid (fun W : World => refRead_any s least most W hs h0.1 h1.2)
  rw [show readsL (strL s) least most = .tuple #[.int .i64 (numL (strL s)), .int .i64 0, .int .i64 (-1)] by unfold readsL; rw [if_pos hf, if_pos hft]] at HRR
  have HLD := Lib.hid (fun W : World => lead_any s W hs)
  have HRL := Lib.hid (fun W : World => refLead_any s W (by omega))
  obtain ⟨p, hp⟩ : ∃ p : Int, p = (leadL (strL s) : Int) := ⟨_, rfl⟩
  obtain ⟨z, hzz⟩ : ∃ z, z = numL (strL s) := ⟨_, rfl⟩
  rw [← hp] at HLD HRL
  rw [← hzz] at HRD HRR
  clear hg hf hft hp hzz
  go_enter Tryd.func4, Tryd.ntmps4
  go_wp2_with (first
    | (go_at_call 7; refine HAL.out.mono ?_; rintro e w1 ⟨rfl, hB1⟩; have HB1 := Lib.hid hB1; clear hB1)
    | (go_at_call 10; (with_reducible refine (HRD.out w1).mono ?_); rintro e w2 ⟨rfl, hb⟩; have HB2 := Lib.hid (HB1.out.trans (hb.mono HB1.out.size)); clear hb)
    | (go_at_call 11; (with_reducible refine (HRR.out w2).mono ?_); rintro e w' ⟨rfl, rfl⟩)
    | (go_at_call 12; refine (num_nil w2).mono ?_; rintro e w' ⟨rfl, rfl⟩)
    | (go_at_call 13; refine (pos_nil w2).mono ?_; rintro e w4 ⟨rfl, hb⟩; have HB4 := Lib.hid (HB2.out.trans (hb.mono HB2.out.size)); clear hb)
    | (go_at_call 14; (with_reducible refine (HLD.out w4).mono ?_); rintro e w5 ⟨rfl, hb⟩; have HB5 := Lib.hid (HB4.out.trans (hb.mono HB4.out.size)); clear hb)
    | (go_at_call 15; (with_reducible refine (HRL.out w5).mono ?_); rintro e w' ⟨rfl, rfl⟩))
  go_ret
  exact ⟨rfl, HB5.out⟩
theorem lawReads_any (s : ByteArray) (least most : Int) (w : World) (hg : ErrTab w) (hs : s.size ≤ 9223372036854775807) (h0 : -9223372036854775808 ≤ least ∧ least ≤ 9223372036854775807) (h1 : -9223372036854775808 ≤ most ∧ most ≤ 9223372036854775807) :
    Calls Tryd.prog 4 #[.string s, .int .i64 least, .int .i64 most] w fun e w' => e = .returned (.bool true) ∧ Below w.heap.size w w' := by
  rcases Nat.lt_or_ge 300 s.size with h | h
  · exact reads_long s least most w hg hs h
  · cases hf : formL (strL s) with
    | false => exact reads_wrong s least most w hg h0 h1 h hf
    | true =>
      cases hft : fitL (strL s) least most with
      | false => exact reads_over s least most w hg h0 h1 h hf hft
      | true => exact reads_right s least most w hg h0 h1 h hf hft
end Go.Proofs.YtkelioafnobolaaDoor
