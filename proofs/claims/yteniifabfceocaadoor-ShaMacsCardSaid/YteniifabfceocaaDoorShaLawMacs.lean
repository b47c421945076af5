/- The walk of the law ShaMacs. -/
import Derived.Test.YteniifabfceocaaDoorShaRefMac
namespace Go.Proofs.YteniifabfceocaaDoor
open Go Go.RowKit

set_option maxRecDepth 100000 in
theorem macs_long1 (key s : ByteArray) (w : World) (htab : Tabs w) (hk : key.size ≤ 9223372036854775807) (h : 5000 < key.size) :
    Calls Tryd.prog 4 #[.string key, .string s] w fun e w' => e = .returned (.bool true) ∧ Below w.heap.size w w' := by
  have hal := alive_any w htab
  go_enter Tryd.func4, Tryd.ntmps4
  go_wp2_with (go_at_call 10; refine hal.mono ?_; rintro e w1 ⟨rfl, hB1⟩)
  go_ret
  exact ⟨rfl, hB1⟩
set_option maxRecDepth 100000 in
theorem macs_long2 (key s : ByteArray) (w : World) (htab : Tabs w) (hk : key.size ≤ 5000) (hs : s.size ≤ 9223372036854775807) (h : 20000 < s.size) :
    Calls Tryd.prog 4 #[.string key, .string s] w fun e w' => e = .returned (.bool true) ∧ Below w.heap.size w w' := by
  have hal := alive_any w htab
  go_enter Tryd.func4, Tryd.ntmps4
  go_wp2_with (go_at_call 10; refine hal.mono ?_; rintro e w1 ⟨rfl, hB1⟩)
  go_ret
  exact ⟨rfl, hB1⟩
set_option maxRecDepth 100000 in
set_option maxHeartbeats 1000000 in
theorem lawMacs_any (key s : ByteArray) (w : World) (hk : key.size ≤ 9223372036854775807) (hs : s.size ≤ 9223372036854775807) (htab : Tabs w) :
    Calls Tryd.prog 4 #[.string key, .string s] w fun e w' => e = .returned (.bool true) ∧ Below w.heap.size w w' := by
  rcases Nat.lt_or_ge 5000 key.size with h1 | h1
  · exact macs_long1 key s w htab hk h1
  rcases Nat.lt_or_ge 20000 s.size with h2 | h2
  · exact macs_long2 key s w htab h1 hs h2
  have HAL := Lib.hid (alive_any w htab)
  have HT := Lib.hid htab
  have HMC := Lib.hid (fun (A B : Option Addr) (c d : Nat) (W : World) (hc : key.size ≤ c) (hd : s.size ≤ d) (hl : Lies W A (strL key)) (hl2 : Lies W B (strL s)) (ht : Tabs W) => show Calls Tryd.prog 14 #[.slice A key.size c, .slice B s.size d] W fun e w' => e = .returned (.agg (ints .u8 (macL (strL key) (strL s))).toArray) ∧ Below W.heap.size W w' by
    have := mac_any A B c d (strL key) (strL s) W (by rw [length_strL]; exact hc) (by rw [length_strL]; exact hd) (by rw [length_strL]; omega) (by rw [length_strL]; omega) (strL_bd _) (strL_bd _) hl hl2 ht
    rw [length_strL, length_strL] at this
    exact this)
  have HRF := Lib.hid (fun (W : World) => refMac_any key s W h1 h2)
  obtain ⟨D, hD⟩ : ∃ D, D = macL (strL key) (strL s) := ⟨_, rfl⟩
  rw [← hD] at HMC HRF
  have HTX := Lib.hid (fun (W : World) => text_any D W (by rw [hD, macL, length_digestL]) (by rw [hD, macL]; exact digestL_bd _))
  have HST : Hid ((⟨(D.map fun x => UInt8.ofNat x.toNat).toArray⟩ : ByteArray) = txtD D) := Lib.hid rfl
  rw [HST.out] at HTX
  obtain ⟨S, hS⟩ : ∃ S, S = txtD D := ⟨_, rfl⟩
  rw [← hS] at HTX HRF
  clear htab hD hS HST
  go_enter Tryd.func4, Tryd.ntmps4
  go_wp2_with (first
    | (go_at_call 10; refine HAL.out.mono ?_; rintro e w1 ⟨rfl, hB1⟩; have HB1 := Lib.hid hB1; clear hB1)
    | (refine wpList_convert_str rfl (some 16) rfl _ _ 5 (.tmp 15) rfl key rfl Tryd.underlying9 Tryd.underlying26 Tryd.underlying5 ?_; intro A1 c1 w2 hl1 hc1 hb; have HB2 := Lib.hid (HB1.out.trans (hb.mono HB1.out.size)); have HL1 := Lib.hid hl1; clear hb hl1; try go_frame)
    | (refine wpList_convert_str rfl (some 18) rfl _ _ 5 (.tmp 17) rfl s rfl Tryd.underlying9 Tryd.underlying26 Tryd.underlying5 ?_; intro A2 c2 w3 hl2 hc2 hb; have HB3 := Lib.hid (HB2.out.trans (hb.mono HB2.out.size)); have HL2 := Lib.hid hl2; have HL1' := Lib.hid (HL1.out.below hb); clear hb hl2; try go_frame)
    | (go_at_call 14; refine (HMC.out A1 A2 c1 c2 w3 hc1 hc2 HL1'.out HL2.out (HT.out.below HB3.out)).mono ?_; rintro e w4 ⟨rfl, hb⟩; have HB4 := Lib.hid (HB3.out.trans (hb.mono HB3.out.size)); clear hb)
    | (go_at_call 11; refine (HTX.out w4).mono ?_; rintro e w5 ⟨rfl, hb⟩; have HB5 := Lib.hid (HB4.out.trans (hb.mono HB4.out.size)); clear hb)
    | (go_at_call 15; refine (HRF.out w5).mono ?_; rintro e w6 ⟨rfl, hb⟩; have HB6 := Lib.hid (HB5.out.trans (hb.mono HB5.out.size)); clear hb))
  go_ret
  exact ⟨rfl, HB6.out⟩
end Go.Proofs.YteniifabfceocaaDoor
