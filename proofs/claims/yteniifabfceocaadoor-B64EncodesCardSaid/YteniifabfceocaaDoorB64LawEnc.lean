/- The walk of the law B64Encodes. -/
import Derived.Test.YteniifabfceocaaDoorB64Ref
namespace Go.Proofs.YteniifabfceocaaDoor
open Go Go.RowKit

set_option maxRecDepth 100000 in
theorem encodes_long (s : ByteArray) (w : World) (hg : ErrTab w) (hs : s.size ≤ 9223372036854775807) (h : 20000 < s.size) :
    Calls Tryd.prog 6 #[.string s] w fun e w' => e = .returned (.bool true) ∧ Below w.heap.size w w' := by
  have hal := alive2_any w hg
  go_enter Tryd.func6, Tryd.ntmps6
  go_wp2_with (go_at_call 19; refine hal.mono ?_; rintro e w1 ⟨rfl, hB1⟩)
  go_ret
  exact ⟨rfl, hB1⟩
set_option maxRecDepth 100000 in
set_option maxHeartbeats 2000000 in
theorem lawEncodes_any (s : ByteArray) (w : World) (hg : ErrTab w) (hs : s.size ≤ 9223372036854775807) :
    Calls Tryd.prog 6 #[.string s] w fun e w' => e = .returned (.bool true) ∧ Below w.heap.size w w' := by
  rcases Nat.lt_or_ge 20000 s.size with h1 | h1
  · exact encodes_long s w hg hs h1
  have HAL := Lib.hid (alive2_any w hg)
  have HEN := Lib.hid (fun (A : Option Addr) (c : Nat) (W : World) (hl : Lies W A (strL s)) (hc : s.size ≤ c) => encode_any A (strL s) s.size c W (length_strL s) (by omega) (strL_bd s) hl hc)
  have HTX : Hid ((⟨(toU (encL (strL s))).toArray⟩ : ByteArray) = txt s) := Lib.hid rfl
  have HRE := Lib.hid (fun (W : World) => refEncode_any s W h1)
  obtain ⟨S, hS⟩ : ∃ S, S = txt s := ⟨_, rfl⟩
  rw [← hS] at HTX HRE
  clear hS hg
  have hconv := fun (W : World) => Lib.run_convert_string_bytes (P := Tryd.prog) W 9 26 5 s Tryd.underlying9 Tryd.underlying26 Tryd.underlying5
  go_enter Tryd.func6, Tryd.ntmps6
  go_wp2_with (first
    | (go_at_call 19; refine HAL.out.mono ?_; rintro e w1 ⟨rfl, hB1⟩; have HB1 := Lib.hid hB1; clear hB1)
    | (go_at_call 20; refine (HEN.out _ _ _ (liesBytes w1 5 s) (grownCap_ge w1 s.size 0 5)).mono ?_; rintro e w3 ⟨rfl, hb⟩; rw [HTX.out]; have HB3 := Lib.hid (HB1.out.trans (((belowBytes w1 5 s).trans (hb.mono (belowBytes w1 5 s).size)).mono HB1.out.size)); clear hb)
    | (go_at_call 21; refine (HRE.out w3).mono ?_; rintro e w4 ⟨rfl, hb⟩; have HB4 := Lib.hid (HB3.out.trans (hb.mono HB3.out.size)); clear hb))
  go_ret
  exact ⟨rfl, HB4.out⟩
end Go.Proofs.YteniifabfceocaaDoor
