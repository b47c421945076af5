/- The walk of the law ShaSums. -/
import Derived.Test.YteniifabfceocaaDoorShaRefSum
import Derived.Test.YteniifabfceocaaDoorShaLawCuts
namespace Go.Proofs.YteniifabfceocaaDoor
open Go Go.RowKit

set_option maxRecDepth 100000 in
theorem sums_long (s : ByteArray) (w : World) (htab : Tabs w) (hs : s.size ≤ 9223372036854775807) (h : 20000 < s.size) :
    Calls Tryd.prog 3 #[.string s] w fun e w' => e = .returned (.bool true) ∧ Below w.heap.size w w' := by
  have hal := alive_any w htab
  go_enter Tryd.func3, Tryd.ntmps3
  go_wp2_with (go_at_call 10; refine hal.mono ?_; rintro e w1 ⟨rfl, hB1⟩)
  go_ret
  exact ⟨rfl, hB1⟩
set_option maxRecDepth 100000 in
set_option maxHeartbeats 1000000 in
theorem lawSums_any (s : ByteArray) (w : World) (hs : s.size ≤ 9223372036854775807) (htab : Tabs w) :
    Calls Tryd.prog 3 #[.string s] w fun e w' => e = .returned (.bool true) ∧ Below w.heap.size w w' := by
  rcases Nat.lt_or_ge 20000 s.size with h1 | h1
  · exact sums_long s w htab hs h1
  have HAL := Lib.hid (alive_any w htab)
  have HT := Lib.hid htab
  have HSM := Lib.hid (fun (W : World) (ht : Tabs W) => sum_str s W (by omega) ht)
  have HRF := Lib.hid (fun (W : World) => refSum_any s W (by omega))
  obtain ⟨D, hD⟩ : ∃ D, D = digestL (strL s) := ⟨_, rfl⟩
  rw [← hD] at HSM HRF
  have HTX := Lib.hid (fun (W : World) => text_any D W (by rw [hD, length_digestL]) (by rw [hD]; exact digestL_bd _))
  have HST : Hid ((⟨(D.map fun x => UInt8.ofNat x.toNat).toArray⟩ : ByteArray) = txtD D) := Lib.hid rfl
  rw [HST.out] at HTX
  obtain ⟨S, hS⟩ : ∃ S, S = txtD D := ⟨_, rfl⟩
  rw [← hS] at HTX HRF
  have hconv := fun (W : World) => Lib.run_convert_string_bytes (P := Tryd.prog) W 9 26 5 s Tryd.underlying9 Tryd.underlying26 Tryd.underlying5
  clear htab hD hS HST
  go_enter Tryd.func3, Tryd.ntmps3
  go_wp2_with (first
    | (go_at_call 10; refine HAL.out.mono ?_; rintro e w1 ⟨rfl, hB1⟩; have HB1 := Lib.hid hB1; clear hB1)
    | (go_at_call 12; refine (HSM.out w1 (HT.out.below HB1.out)).mono ?_; rintro e w2 ⟨rfl, hb⟩; have HB2 := Lib.hid (HB1.out.trans (hb.mono HB1.out.size)); clear hb)
    | (go_at_call 11; refine (HTX.out w2).mono ?_; rintro e w3 ⟨rfl, hb⟩; have HB3 := Lib.hid (HB2.out.trans (hb.mono HB2.out.size)); clear hb)
    | (go_at_call 13; refine (HRF.out w3).mono ?_; rintro e w4 ⟨rfl, hb⟩; have HB4 := Lib.hid (HB3.out.trans (hb.mono HB3.out.size)); clear hb))
  go_ret
  exact ⟨rfl, HB4.out⟩
end Go.Proofs.YteniifabfceocaaDoor
