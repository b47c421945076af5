/- The walk of the law UtfChecks. -/
import Derived.Test.YtaepfdkbefojmaaDoorUtfAlive
namespace Go.Proofs.YtaepfdkbefojmaaDoor
open Go Go.RowKit

set_option maxRecDepth 100000 in
theorem checks_long (s : ByteArray) (w : World) (hg : ErrTab w) (hm : Marks w) (hs : s.size ≤ 9223372036854775807) (h : 20000 < s.size) :
    Calls Tryd.prog 4 #[.string s] w fun e w' => e = .returned (.bool true) ∧ Below w.heap.size w w' := by
  have HAL := Lib.hid (alive3_any w hg hm)
  clear hg hm
  go_enter Tryd.func4, Tryd.ntmps4
  go_wp2_with (go_at_call 7; refine HAL.out.mono ?_; rintro e w1 ⟨rfl, hB1⟩)
  go_ret
  exact ⟨rfl, hB1⟩
set_option maxRecDepth 100000 in
set_option maxHeartbeats 2000000 in
theorem checks_right (s : ByteArray) (w : World) (hg : ErrTab w) (hm : Marks w) (h : s.size ≤ 20000) (hb : badU (strL s) = (strL s).length) :
    Calls Tryd.prog 4 #[.string s] w fun e w' => e = .returned (.bool true) ∧ Below w.heap.size w w' := by
  have HAL := Lib.hid (alive3_any w hg hm)
  have HM := Lib.hid hm
  have HCK := Lib.hid (fun (A : Option Addr) (c : Nat) (W : World) (hM : Marks W) (hl : Lies W A (strL s)) => (check_any A (strL s) s.size c W hM (length_strL s) (by omega) (strL_bd s) hl).mono (R' := fun e w' => e = .returned .nilIface ∧ Below W.heap.size W w') fun e w' ht => by
    rcases ht with ⟨_, h1, h2⟩ | ⟨h1, _⟩
    · exact ⟨h1, h2⟩
    · exact absurd hb h1)
  have HRB := Lib.hid (fun (W : World) => refBad_any s W (by omega))
  rw [show badR (strL s) = -1 from if_pos hb] at HRB
  clear hg hm hb
  go_enter Tryd.func4, Tryd.ntmps4
  go_wp2_with (first
    | (go_at_call 7; refine HAL.out.mono ?_; rintro e w1 ⟨rfl, hB1⟩; have HB1 := Lib.hid hB1; clear hB1)
    | (refine wpList_convert_str rfl (some 11) rfl _ _ 5 (.tmp 10) rfl s rfl Tryd.underlying9 Tryd.underlying25 Tryd.underlying5 ?_; intro A1 c1 w2 hl1 hc1 hb; have HB2 := Lib.hid (HB1.out.trans (hb.mono HB1.out.size)); have HL1 := Lib.hid hl1; clear hb hl1; try go_frame)
    | (go_at_call 12; (with_reducible refine (HCK.out A1 c1 w2 (HM.out.below HB2.out) HL1.out).mono ?_); rintro e w3 ⟨rfl, hb⟩; have HB3 := Lib.hid (HB2.out.trans (hb.mono HB2.out.size)); clear hb)
    | (go_at_call 13; (with_reducible refine (HRB.out w3).mono ?_); rintro e w4 ⟨rfl, hb⟩; have HB4 := Lib.hid (HB3.out.trans (hb.mono HB3.out.size)); clear hb))
  go_ret
  exact ⟨rfl, HB4.out⟩
set_option maxRecDepth 100000 in
set_option maxHeartbeats 2000000 in
theorem checks_wrong (s : ByteArray) (w : World) (hg : ErrTab w) (hm : Marks w) (h : s.size ≤ 20000) (hb : badU (strL s) ≠ (strL s).length) :
    Calls Tryd.prog 4 #[.string s] w fun e w' => e = .returned (.bool true) ∧ Below w.heap.size w w' := by
  have HAL := Lib.hid (alive3_any w hg hm)
  have HM := Lib.hid hm
  have HG := Lib.hid hg
  have HCK := Lib.hid (fun (A : Option Addr) (c : Nat) (W : World) (hM : Marks W) (hl : Lies W A (strL s)) => (check_any A (strL s) s.size c W hM (length_strL s) (by omega) (strL_bd s) hl).mono (R' := CheckWrong (badU (strL s) : Int) W) fun e w' ht => by
    rcases ht with ⟨h0, _⟩ | ⟨_, h1⟩
    · exact absurd h0 hb
    · exact h1)
  have HRB := Lib.hid (fun (W : World) => refBad_any s W (by omega))
  rw [show badR (strL s) = (badU (strL s) : Int) from if_neg hb] at HRB
  obtain ⟨p, hp⟩ : ∃ p, p = badU (strL s) := ⟨_, rfl⟩
  rw [← hp] at HCK HRB
  clear hg hm hb hp
  go_enter Tryd.func4, Tryd.ntmps4
  go_wp2_with (first
    | (go_at_call 7; refine HAL.out.mono ?_; rintro e w1 ⟨rfl, hB1⟩; have HB1 := Lib.hid hB1; clear hB1)
    | (refine wpList_convert_str rfl (some 11) rfl _ _ 5 (.tmp 10) rfl s rfl Tryd.underlying9 Tryd.underlying25 Tryd.underlying5 ?_; intro A1 c1 w2 hl1 hc1 hb; have HB2 := Lib.hid (HB1.out.trans (hb.mono HB1.out.size)); have HL1 := Lib.hid hl1; clear hb hl1; try go_frame)
    | (go_at_call 12; (with_reducible refine (HCK.out A1 c1 w2 (HM.out.below HB2.out) HL1.out).mono ?_); rintro e w3 ⟨b, rfl, h0, h1, _, hb⟩; have HC3 := Lib.hid (And.intro h0 h1); have HB3 := Lib.hid (HB2.out.trans (hb.mono HB2.out.size)); clear hb h0 h1)
    | (go_at_call 13; (with_reducible refine (HRB.out w3).mono ?_); rintro e w4 ⟨rfl, hb⟩; have HC4 := Lib.hid (And.intro ((hb.cell (p := ⟨b, 0, none⟩) (lt_of_cell HC3.out.1)).trans HC3.out.1) ((hb.cell (p := ⟨b, 0 + 1, none⟩) (lt_of_cell HC3.out.2)).trans HC3.out.2)); have HB4 := Lib.hid (HB3.out.trans (hb.mono HB3.out.size)); clear hb)
    | (go_at_call 14; refine (num_at 30 b 0 w4 (HG.out.below HB4.out) HC4.out.2).mono ?_; rintro e w5 ⟨rfl, hb⟩; have HC5 := Lib.hid ((hb.cell (p := ⟨b, 0, none⟩) (lt_of_cell HC4.out.1)).trans HC4.out.1); have HB5 := Lib.hid (HB4.out.trans (hb.mono HB4.out.size)); clear hb)
    | (go_at_call 15; refine (pos_at p b 0 w5 (HG.out.below HB5.out) HC5.out).mono ?_; rintro e w6 ⟨rfl, hb⟩; have HB6 := Lib.hid (HB5.out.trans (hb.mono HB5.out.size)); clear hb))
  go_ret
  exact ⟨rfl, HB6.out⟩
theorem lawChecks_any (s : ByteArray) (w : World) (hg : ErrTab w) (hm : Marks w) (hs : s.size ≤ 9223372036854775807) :
    Calls Tryd.prog 4 #[.string s] w fun e w' => e = .returned (.bool true) ∧ Below w.heap.size w w' := by
  rcases Nat.lt_or_ge 20000 s.size with h1 | h1
  · exact checks_long s w hg hm hs h1
  · by_cases hb : badU (strL s) = (strL s).length
    · exact checks_right s w hg hm h1 hb
    · exact checks_wrong s w hg hm h1 hb
end Go.Proofs.YtaepfdkbefojmaaDoor
