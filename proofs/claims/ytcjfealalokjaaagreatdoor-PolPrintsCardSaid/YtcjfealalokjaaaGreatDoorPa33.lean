/- PolLawPrints: merged. -/
import Derived.Test.YtcjfealalokjaaaGreatDoorPa20
import Derived.Test.YtcjfealalokjaaaGreatDoorPa24
import Derived.Test.YtcjfealalokjaaaGreatDoorPa32
set_option linter.all false
namespace Go.Proofs.YtcjfealalokjaaaGreatDoor
open Go Go.RowKit
set_option maxRecDepth 100000 in
set_option maxHeartbeats 4000000 in
theorem polPrints_any (l : List RuleM) (va : Value) (W : World) (hg : ErrTab W) (h : Ask12 W) (ha : RepP W (fun k => k < W.heap.size) l va) :
    Calls Tryz.prog 4 #[va] W fun e w' => e = .returned (.bool true) ∧ Below W.heap.size W w' := by
  have HAL := Lib.hid (alive12_any W h)
  have HEG := Lib.hid hg
  have HA := Lib.hid (fun (w : World) (hw : Below W.heap.size W w) => ha.under (Nat.le_refl _) hw)
  have HGA := Lib.hid (fun (w : World) (hw : Below W.heap.size W w) => refGreatP_any hw.size (HA.out w hw))
  have HASK := Lib.hid h
  clear h ha hg
  cases hga : greatP l with
  | true =>
    rw [hga] at HGA
    clear hga
    go_enter Tryz.func4, Tryz.ntmps4
    go_wp2_with fail
    (with_reducible refine HAL.out.mono ?_)
    rintro e w1 ⟨rfl, hb1⟩
    have HB1 := Lib.hid hb1
    clear hb1
    go_wp2_with fail
    (with_reducible refine (HGA.out w1 HB1.out).mono ?_)
    rintro e w2 ⟨rfl, hb2⟩
    have HB2 := Lib.hid (HB1.out.trans (hb2.mono HB1.out.size))
    clear hb2
    go_wp2
    go_ret
    exact ⟨rfl, HB2.out⟩
  | false =>
  rw [hga] at HGA
  obtain ⟨ll, hlk⟩ := greatP_look hga
  clear hga
  have HRI := Lib.hid (fun (w : World) (hw : Below W.heap.size W w) => right_any (HASK.out.marks.under hw) hw.size (by omega) (fun x hx => (hlk x hx).held) (HA.out w hw))
  have HRR := Lib.hid (fun (w : World) (hw : Below W.heap.size W w) => refRightP_any hw.size hlk (HA.out w hw))
  have HPR := Lib.hid (fun (w : World) (hw : Below W.heap.size W w) => polPrint_any (HASK.out.marks.under hw) hw.size (by omega) (fun x hx => (hlk x hx).held) (HA.out w hw) (fun hr => (right_bl hr hlk).1) (fun hr => Nat.le_trans (right_bl hr hlk).2 (by decide)))
  unfold PrTells at HPR
  have HRP := Lib.hid (fun (hr : rightP l = true) (w : World) (hw : Below W.heap.size W w) => refPrintP_any hw.size hlk hr (HA.out w hw))
  cases hr : rightP l with
  | false =>
    rw [hr] at HRI HRR HPR
    simp only [Bool.false_eq_true, if_false] at HPR
    clear HRP hr ll hlk
    go_enter Tryz.func4, Tryz.ntmps4
    go_wp2_with fail
    (with_reducible refine HAL.out.mono ?_)
    rintro e w1 ⟨rfl, hb1⟩
    have HB1 := Lib.hid hb1
    clear hb1
    go_wp2_with fail
    (with_reducible refine (HGA.out w1 HB1.out).mono ?_)
    rintro e w2 ⟨rfl, hb2⟩
    have HB2 := Lib.hid (HB1.out.trans (hb2.mono HB1.out.size))
    clear hb2
    go_wp2_with fail
    (with_reducible refine (HPR.out w2 HB2.out).mono ?_)
    rintro e w3 ⟨rfl, hb3⟩
    have HB3 := Lib.hid (HB2.out.trans (hb3.mono HB2.out.size))
    clear hb3
    go_wp2_with fail
    (with_reducible refine (HRR.out w3 HB3.out).mono ?_)
    rintro e w4 ⟨rfl, hb4⟩
    have HB4 := Lib.hid (HB3.out.trans (hb4.mono HB3.out.size))
    have HN := Lib.hid (num_errno 1 w4 (HEG.out.below HB4.out))
    clear hb4
    go_wp2_with fail
    (with_reducible refine HN.out.mono ?_)
    rintro e w5 ⟨rfl, hb5⟩
    have HB5 := Lib.hid (HB4.out.trans (hb5.mono HB4.out.size))
    clear hb5
    go_wp2_with fail
    (with_reducible refine (HRI.out w5 HB5.out).mono ?_)
    rintro e w6 ⟨rfl, hb6⟩
    have HB6 := Lib.hid (HB5.out.trans (hb6.mono HB5.out.size))
    clear hb6
    go_wp2
    go_ret
    exact ⟨rfl, HB6.out⟩
  | true =>
    have HRP2 := Lib.hid (HRP.out hr)
    rw [hr] at HRI HRR HPR
    simp only [if_true] at HPR
    obtain ⟨T, hT⟩ : ∃ T, T = toS (printL 200 l) := ⟨_, rfl⟩
    rw [← hT] at HRP2 HPR
    have hTT : (T.toList == T.toList) = true := by simp
    clear HRP hr ll hlk hT
    go_enter Tryz.func4, Tryz.ntmps4
    go_wp2_with fail
    (with_reducible refine HAL.out.mono ?_)
    rintro e w1 ⟨rfl, hb1⟩
    have HB1 := Lib.hid hb1
    clear hb1
    go_wp2_with fail
    (with_reducible refine (HGA.out w1 HB1.out).mono ?_)
    rintro e w2 ⟨rfl, hb2⟩
    have HB2 := Lib.hid (HB1.out.trans (hb2.mono HB1.out.size))
    clear hb2
    go_wp2_with fail
    (with_reducible refine (HPR.out w2 HB2.out).mono ?_)
    rintro e w3 ⟨rfl, hb3⟩
    have HB3 := Lib.hid (HB2.out.trans (hb3.mono HB2.out.size))
    clear hb3
    go_wp2_with fail
    (with_reducible refine (HRR.out w3 HB3.out).mono ?_)
    rintro e w4 ⟨rfl, hb4⟩
    have HB4 := Lib.hid (HB3.out.trans (hb4.mono HB3.out.size))
    clear hb4
    go_wp2_with fail
    (with_reducible refine (HRI.out w4 HB4.out).mono ?_)
    rintro e w6 ⟨rfl, hb6⟩
    have HB6 := Lib.hid (HB4.out.trans (hb6.mono HB4.out.size))
    clear hb6
    go_wp2_with fail
    (with_reducible refine (HRP2.out w6 HB6.out).mono ?_)
    rintro e w7 ⟨rfl, hb7⟩
    have HB7 := Lib.hid (HB6.out.trans (hb7.mono HB6.out.size))
    clear hb7
    go_wp2
    go_ret
    exact ⟨rfl, HB7.out⟩
end Go.Proofs.YtcjfealalokjaaaGreatDoor
