/- The laws of pkce: alive. -/
import Derived.Test.YtdgpphihjeffcaaDoorPkChal
namespace Go.Proofs.YtdgpphihjeffcaaDoor
open Go Go.RowKit

set_option maxRecDepth 1000000 in
theorem short_no : verL (strL ⟨#[115, 104, 111, 114, 116]⟩) = false := by decide +kernel
set_option maxRecDepth 100000 in
set_option maxHeartbeats 2000000 in
theorem alive10_any (w : World) (ht : Tabs w) : Calls Tryd.prog 6 #[] w fun e w' => e = .returned (.bool true) ∧ Below w.heap.size w w' := by
  have HC : Hid (Calls Tryd.prog 7 #[.bool false, .string ⟨#[100, 66, 106, 102, 116, 74, 101, 90, 52, 67, 86, 80, 45, 109, 66, 57, 50, 75, 50, 55, 117, 104, 98, 85, 74, 85, 49, 112, 49, 114, 95, 119, 87, 49, 103, 70, 87, 70, 79, 69, 106, 88, 107]⟩] w fun e w' => e = .returned (.tuple #[.string ⟨#[69, 57, 77, 101, 108, 104, 111, 97, 50, 79, 119, 118, 70, 114, 69, 77, 84, 74, 103, 117, 67, 72, 97, 111, 101, 75, 49, 116, 56, 85, 82, 87, 98, 117, 71, 74, 83, 115, 116, 119, 45, 99, 77]⟩, .nilIface]) ∧ Below w.heap.size w w') := Lib.hid (by
    have := chal_ok false exV w ex_ver ht
    rw [ex_chal] at this
    exact this)
  have HR : Hid (∀ W : World, Calls Tryd.prog 14 #[.bool false, .string ⟨#[69, 57, 77, 101, 108, 104, 111, 97, 50, 79, 119, 118, 70, 114, 69, 77, 84, 74, 103, 117, 67, 72, 97, 111, 101, 75, 49, 116, 56, 85, 82, 87, 98, 117, 71, 74, 83, 115, 116, 119, 45, 99, 77]⟩] W fun e w' => e = .returned (.bool true) ∧ Below W.heap.size W w') := Lib.hid (fun W => by
    have := pkRight_any false exC W (by decide)
    rw [ex_right] at this
    exact this)
  have HV : Hid (∀ W : World, Calls Tryd.prog 9 #[.string ⟨#[115, 104, 111, 114, 116]⟩] W fun e w' => e = .returned (.bool false) ∧ W = w') := Lib.hid (fun W => by
    have := ver_any ⟨#[115, 104, 111, 114, 116]⟩ W (by decide)
    rw [short_no] at this
    exact this)
  clear ht
  go_enter Tryd.func6, Tryd.ntmps6
  go_wp2_with (first
    | (go_at_call 7; refine HC.out.mono ?_; rintro e w1 ⟨rfl, hb⟩; have HB1 := Lib.hid hb; clear hb)
    | (go_at_call 14; refine (HR.out _).mono ?_; rintro e w2 ⟨rfl, hb⟩; have HB2 := Lib.hid (HB1.out.trans (hb.mono HB1.out.size)); clear hb)
    | (go_at_call 9; refine (HV.out _).mono ?_; rintro e w' ⟨rfl, rfl⟩))
  go_ret
  exact ⟨rfl, HB2.out⟩
end Go.Proofs.YtdgpphihjeffcaaDoor
