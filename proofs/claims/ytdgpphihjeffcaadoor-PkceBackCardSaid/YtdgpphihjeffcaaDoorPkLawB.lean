/- The walk of the law PkceBack. -/
import Derived.Test.YtdgpphihjeffcaaDoorPkLaw
namespace Go.Proofs.YtdgpphihjeffcaaDoor
open Go Go.RowKit

set_option maxRecDepth 100000 in
set_option maxHeartbeats 4000000 in
theorem pkBack_any (p : Bool) (v : ByteArray) (w : World) (ht : Tabs w) (hs : v.size ≤ 9223372036854775807) :
    Calls Tryd.prog 5 #[.bool p, .string v] w fun e w' => e = .returned (.bool true) ∧ Below w.heap.size w w' := by
  have HAL := Lib.hid (alive10_any w ht)
  have HV := Lib.hid (fun W => ver_any v W hs)
  cases hv : verL (strL v) with
  | false =>
    have HC := Lib.hid (fun W => chal_no p v W hs hv)
    rw [hv] at HV
    clear ht hs hv
    go_enter Tryd.func5, Tryd.ntmps5
    go_wp2_with (first
      | (go_at_call 6; refine HAL.out.mono ?_; rintro e w1 ⟨rfl, hb⟩; have HB1 := Lib.hid hb; clear hb)
      | (go_at_call 7; refine (HC.out _).mono ?_; rintro e w' ⟨rfl, rfl⟩)
      | (go_at_call 9; refine (HV.out _).mono ?_; rintro e w' ⟨rfl, rfl⟩))
    go_ret
    exact ⟨rfl, HB1.out⟩
  | true =>
    have HC := Lib.hid (fun (W : World) (hW : Below w.heap.size w W) => chal_ok p v W hv (ht.below hW))
    have hz := size_chal p v hv
    have hrt := right_chal p v hv
    have HCK := Lib.hid (fun (c : ByteArray) (hc : c.size ≤ 9223372036854775807) (W : World) (hW : Below w.heap.size w W) => check_any p c v W hc hs (ht.below hW))
    have hk0 : chkV (chkB p (chalS p v) v) = .nilIface := by
      unfold chkB; rw [hv, decide_eq_true rfl]; exact if_pos rfl
    have hk1 : chkV (chkB p (chalS p v ++ ⟨#[65]⟩) v) = .iface 33 (.int .i64 100) := by
      have : chkB p (chalS p v ++ ⟨#[65]⟩) v = false := by
        unfold chkB
        rw [decide_eq_false (fun e => by
          have := congrArg ByteArray.size e
          rw [ByteArray.size_append] at this
          have h1 : (⟨#[65]⟩ : ByteArray).size = 1 := rfl
          omega), Bool.and_false]
      rw [this]; exact if_neg (by decide)
    have hk2 : chkV (chkB p ⟨#[]⟩ v) = .iface 33 (.int .i64 100) := by
      have : chkB p ⟨#[]⟩ v = false := by
        unfold chkB
        rw [decide_eq_false (fun e => by
          have := congrArg ByteArray.size e
          have h1 : (⟨#[]⟩ : ByteArray).size = 0 := rfl
          omega), Bool.and_false]
      rw [this]; exact if_neg (by decide)
    obtain ⟨S, hS⟩ : ∃ S, S = chalS p v := ⟨_, rfl⟩
    rw [← hS] at HC hz hrt hk0 hk1
    have hsz : (S ++ ⟨#[65]⟩ : ByteArray).size ≤ 9223372036854775807 := by
      rw [ByteArray.size_append]
      have h1 : (⟨#[65]⟩ : ByteArray).size = 1 := rfl
      omega
    have HR := Lib.hid (fun W => pkRight_any p S W (by omega))
    rw [hrt] at HR
    have HC0 := Lib.hid (fun (W : World) (hW : Below w.heap.size w W) => HCK.out S (by omega) W hW)
    have HC1 := Lib.hid (fun (W : World) (hW : Below w.heap.size w W) => HCK.out (S ++ ⟨#[65]⟩) hsz W hW)
    have HC2 := Lib.hid (fun (W : World) (hW : Below w.heap.size w W) => HCK.out ⟨#[]⟩ (by decide) W hW)
    rw [hk0] at HC0
    rw [hk1] at HC1
    rw [hk2] at HC2
    have hz2 := hz.2
    have hz3 : S.size + 1 ≤ 9223372036854775807 := by omega
    clear ht hs hv hz hrt hk0 hk1 hk2 hS HCK hsz
    go_enter Tryd.func5, Tryd.ntmps5
    go_wp2_with (first
      | (go_at_call 6; refine HAL.out.mono ?_; rintro e w1 ⟨rfl, hb⟩; have HB1 := Lib.hid hb; clear hb)
      | (go_at_call 7; refine (HC.out _ HB1.out).mono ?_; rintro e w2 ⟨rfl, hb⟩; have HB2 := Lib.hid (HB1.out.trans (hb.mono HB1.out.size)); clear hb)
      | (go_at_call 14; refine (HR.out _).mono ?_; rintro e w3 ⟨rfl, hb⟩; have HB3 := Lib.hid (HB2.out.trans (hb.mono HB2.out.size)); clear hb)
      | (go_at_call 12; refine (HC0.out _ HB3.out).mono ?_; rintro e w4 ⟨rfl, hb⟩; have HB4 := Lib.hid (HB3.out.trans (hb.mono HB3.out.size)); clear hb HC0)
      | (go_at_call 12; refine (HC1.out _ HB4.out).mono ?_; rintro e w5 ⟨rfl, hb⟩; have HB5 := Lib.hid (HB4.out.trans (hb.mono HB4.out.size)); clear hb HC1)
      | (go_at_call 12; refine (HC2.out _ HB5.out).mono ?_; rintro e w6 ⟨rfl, hb⟩; have HB6 := Lib.hid (HB5.out.trans (hb.mono HB5.out.size)); clear hb))
    go_ret
    exact ⟨rfl, HB6.out⟩
end Go.Proofs.YtdgpphihjeffcaaDoor
