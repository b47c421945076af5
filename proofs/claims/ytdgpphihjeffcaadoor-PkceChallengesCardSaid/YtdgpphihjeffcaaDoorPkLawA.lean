/- The walk of the law PkceChallenges. -/
import Derived.Test.YtdgpphihjeffcaaDoorPkLaw
import Derived.Test.YtdgpphihjeffcaaDoorErrNumE
namespace Go.Proofs.YtdgpphihjeffcaaDoor
open Go Go.RowKit

set_option maxRecDepth 100000 in
set_option maxHeartbeats 4000000 in
theorem pkChallenges_any (p : Bool) (s : ByteArray) (w : World) (hg : ErrTab w) (ht : Tabs w) (hs : s.size ≤ 9223372036854775807) :
    Calls Tryd.prog 3 #[.bool p, .string s] w fun e w' => e = .returned (.bool true) ∧ Below w.heap.size w w' := by
  have HAL := Lib.hid (alive10_any w ht)
  rcases Nat.lt_or_ge 3000 s.size with h | h
  · have c1 : (3000 : Int) < (s.size : Int) := by omega
    clear hg ht hs
    go_enter Tryd.func3, Tryd.ntmps3
    go_wp2_with (go_at_call 6; refine HAL.out.mono ?_; rintro e w1 ⟨rfl, hb⟩; have HB1 := Lib.hid hb; clear hb)
    go_ret
    exact ⟨rfl, HB1.out⟩
  have c1 : ¬ (3000 : Int) < (s.size : Int) := by omega
  have HV := Lib.hid (fun W => ver_any s W hs)
  have HRV := Lib.hid (fun W => refVer_any s W hs)
  cases hv : verL (strL s) with
  | false =>
    have HC := Lib.hid (fun W => chal_no p s W hs hv)
    have HN := Lib.hid (fun (W : World) (hW : Below w.heap.size w W) => num_errno 100 W (hg.below hW))
    rw [hv] at HV HRV
    clear hg ht hs h hv
    go_enter Tryd.func3, Tryd.ntmps3
    go_wp2_with (first
      | (go_at_call 6; refine HAL.out.mono ?_; rintro e w1 ⟨rfl, hb⟩; have HB1 := Lib.hid hb; clear hb)
      | (go_at_call 7; refine (HC.out _).mono ?_; rintro e w' ⟨rfl, rfl⟩)
      | (go_at_call 9; refine (HV.out _).mono ?_; rintro e w' ⟨rfl, rfl⟩)
      | (go_at_call 8; refine (HRV.out _).mono ?_; rintro e w' ⟨rfl, rfl⟩)
      | (go_at_call 10; refine (HN.out _ HB1.out).mono ?_; rintro e w2 ⟨rfl, hb⟩; have HB2 := Lib.hid (HB1.out.trans (hb.mono HB1.out.size)); clear hb))
    go_ret
    exact ⟨rfl, HB2.out⟩
  | true =>
    have HC := Lib.hid (fun (W : World) (hW : Below w.heap.size w W) => chal_ok p s W hv (ht.below hW))
    have HRC := Lib.hid (fun (W : World) => refChal_any p s W h)
    rw [hv] at HV HRV
    obtain ⟨S, hS⟩ : ∃ S, S = chalS p s := ⟨_, rfl⟩
    rw [← hS] at HC HRC
    have hq : (S.toList == S.toList) = true := beq_self_eq_true _
    clear hg ht hs h hv hS
    go_enter Tryd.func3, Tryd.ntmps3
    go_wp2_with (first
      | (go_at_call 6; refine HAL.out.mono ?_; rintro e w1 ⟨rfl, hb⟩; have HB1 := Lib.hid hb; clear hb)
      | (go_at_call 7; refine (HC.out _ HB1.out).mono ?_; rintro e w2 ⟨rfl, hb⟩; have HB2 := Lib.hid (HB1.out.trans (hb.mono HB1.out.size)); clear hb)
      | (go_at_call 9; refine (HV.out _).mono ?_; rintro e w' ⟨rfl, rfl⟩)
      | (go_at_call 8; refine (HRV.out _).mono ?_; rintro e w' ⟨rfl, rfl⟩)
      | (go_at_call 11; refine (HRC.out _).mono ?_; rintro e w3 ⟨rfl, hb⟩; have HB3 := Lib.hid (HB2.out.trans (hb.mono HB2.out.size)); clear hb))
    go_ret
    exact ⟨rfl, HB3.out⟩
end Go.Proofs.YtdgpphihjeffcaaDoor
