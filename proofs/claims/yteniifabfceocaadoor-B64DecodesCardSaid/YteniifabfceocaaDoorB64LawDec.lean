/- The walk of the law B64Decodes. -/
import Derived.Test.YteniifabfceocaaDoorB64RefDec
namespace Go.Proofs.YteniifabfceocaaDoor
open Go Go.RowKit

theorem conv_none (w : World) : (convert 26 9 (.slice none 0 0)).run Tryd.prog w = .ok (.string ⟨#[]⟩) w :=
  conv_str none [] 0 0 w rfl (fun h => absurd h (by simp))
set_option maxRecDepth 100000 in
theorem decodes_long (s : ByteArray) (w : World) (hg : ErrTab w) (hs : s.size ≤ 9223372036854775807) (h : 70000 < s.size) :
    Calls Tryd.prog 7 #[.string s] w fun e w' => e = .returned (.bool true) ∧ Below w.heap.size w w' := by
  have hal := alive2_any w hg
  go_enter Tryd.func7, Tryd.ntmps7
  go_wp2_with (go_at_call 19; refine hal.mono ?_; rintro e w1 ⟨rfl, hB1⟩)
  go_ret
  exact ⟨rfl, hB1⟩
set_option maxRecDepth 100000 in
set_option maxHeartbeats 2000000 in
theorem decodes_over (s : ByteArray) (w : World) (hg : ErrTab w) (hs : s.size ≤ 70000) (h : 65536 < s.size) :
    Calls Tryd.prog 7 #[.string s] w fun e w' => e = .returned (.bool true) ∧ Below w.heap.size w w' := by
  have HAL := Lib.hid (alive2_any w hg)
  have HD := Lib.hid (fun (W : World) => decode_long s W (by omega) h)
  have HR := Lib.hid (fun (W : World) => refDecode_long s W (by omega) h)
  have HRT := Lib.hid (fun (W : World) => right_long s W (by omega) h)
  have HG := Lib.hid hg
  have hcv := conv_none
  clear hg h
  go_enter Tryd.func7, Tryd.ntmps7
  go_wp2_with (first
    | (go_at_call 19; refine HAL.out.mono ?_; rintro e w1 ⟨rfl, hB1⟩; have HB1 := Lib.hid hB1; clear hB1)
    | (go_at_call 22; refine (HD.out w1).mono ?_; rintro e w' ⟨rfl, rfl⟩)
    | (go_at_call 23; refine (HR.out w1).mono ?_; rintro e w' ⟨rfl, rfl⟩)
    | (go_at_call 24; refine (num_errno 2 w1 (HG.out.below HB1.out)).mono ?_; rintro e w2 ⟨rfl, hb⟩; have HB2 := Lib.hid (HB1.out.trans (hb.mono HB1.out.size)); clear hb)
    | (go_at_call 25; refine (pos_errno 2 w2 (HG.out.below HB2.out)).mono ?_; rintro e w3 ⟨rfl, hb⟩; have HB3 := Lib.hid (HB2.out.trans (hb.mono HB2.out.size)); clear hb)
    | (go_at_call 26; refine (HRT.out w3).mono ?_; rintro e w' ⟨rfl, rfl⟩))
  go_ret
  exact ⟨rfl, HB3.out⟩
set_option maxRecDepth 100000 in
set_option maxHeartbeats 2000000 in
theorem decodes_right (s : ByteArray) (w : World) (hg : ErrTab w) (h : s.size ≤ 65536) (hf : faultL (strL s) = -1) :
    Calls Tryd.prog 7 #[.string s] w fun e w' => e = .returned (.bool true) ∧ Below w.heap.size w w' := by
  have HAL := Lib.hid (alive2_any w hg)
  have HD := Lib.hid (fun (W : World) => decode_right s W h hf)
  obtain ⟨S, hS⟩ : ∃ S : ByteArray, S = ⟨(toU (decL (strL s))).toArray⟩ := ⟨_, rfl⟩
  have HR := Lib.hid (fun (W : World) => (refDecode_any s W h).mono (R' := fun e w' => e = .returned (.tuple #[.string S, .int .i64 0, .int .i64 (-1)]) ∧ Below W.heap.size W w') fun e w' hr => by
    rcases hr.1 with ⟨_, he⟩ | ⟨h0, _⟩
    · exact ⟨by rw [he, hS], hr.2⟩
    · omega)
  have HRT := Lib.hid (fun (W : World) => right_any s W h)
  have HFD : Hid (decide (faultL (strL s) = -1) = true) := Lib.hid (decide_eq_true hf)
  have HS := Lib.hid hS
  clear hg hf hS
  go_enter Tryd.func7, Tryd.ntmps7
  go_wp2_with (first
    | (go_at_call 19; refine HAL.out.mono ?_; rintro e w1 ⟨rfl, hB1⟩; have HB1 := Lib.hid hB1; clear hB1)
    | (go_at_call 22; refine (HD.out w1).mono ?_; rintro e w2 ⟨A, c, rfl, _, hl, hb⟩; have HLI := Lib.hid hl; have HB2 := Lib.hid (HB1.out.trans (hb.mono HB1.out.size)); clear hb hl)
    | (go_at_call 23; refine (HR.out w2).mono ?_; rintro e w3 ⟨rfl, hb⟩; have HLI3 := Lib.hid (HLI.out.below hb); have HB3 := Lib.hid (HB2.out.trans (hb.mono HB2.out.size)); clear hb)
    | (go_at_call 24; refine (num_nil w3).mono ?_; rintro e w' ⟨rfl, rfl⟩)
    | (go_at_call 25; refine (pos_nil w3).mono ?_; rintro e w4 ⟨rfl, hb⟩; have hcv := conv_str A (decL (strL s)) _ c w4 rfl (HLI3.out.below hb); rw [← HS.out] at hcv; have HB4 := Lib.hid (HB3.out.trans (hb.mono HB3.out.size)); clear hb)
    | (go_at_call 26; refine (HRT.out w4).mono ?_; rintro e w5 ⟨rfl, hb⟩; rw [HFD.out]; have HB5 := Lib.hid (HB4.out.trans (hb.mono HB4.out.size)); clear hb))
  go_ret
  exact ⟨rfl, HB5.out⟩
set_option maxRecDepth 100000 in
set_option maxHeartbeats 2000000 in
theorem decodes_wrong (s : ByteArray) (w : World) (hg : ErrTab w) (h : s.size ≤ 65536) (hf : ¬ faultL (strL s) = -1) :
    Calls Tryd.prog 7 #[.string s] w fun e w' => e = .returned (.bool true) ∧ Below w.heap.size w w' := by
  have HAL := Lib.hid (alive2_any w hg)
  obtain ⟨p, hp⟩ : ∃ p, p = faultL (strL s) := ⟨_, rfl⟩
  have HD := Lib.hid (fun (W : World) => decode_wrong s W h hf)
  have HR := Lib.hid (fun (W : World) => (refDecode_any s W h).mono (R' := fun e w' => e = .returned (.tuple #[.string ⟨#[]⟩, .int .i64 20, .int .i64 p]) ∧ Below W.heap.size W w') fun e w' hr => by
    rcases hr.1 with ⟨h0, _⟩ | ⟨_, he⟩
    · exact absurd h0 hf
    · exact ⟨by rw [he, hp], hr.2⟩)
  have HRT := Lib.hid (fun (W : World) => right_any s W h)
  have HFD : Hid (decide (faultL (strL s) = -1) = false) := Lib.hid (decide_eq_false hf)
  have HG := Lib.hid hg
  rw [← hp] at HD
  have hcv := conv_none
  clear hg hf hp
  go_enter Tryd.func7, Tryd.ntmps7
  go_wp2_with (first
    | (go_at_call 19; refine HAL.out.mono ?_; rintro e w1 ⟨rfl, hB1⟩; have HB1 := Lib.hid hB1; clear hB1)
    | (go_at_call 22; refine (HD.out w1).mono ?_; rintro e w2 ⟨rfl, hw⟩; have hb : Below w1.heap.size w1 w2 := (by rw [hw]; exact belowAlloc _ _); have h0 : w2.cell? ⟨w1.heap.size, 0, none⟩ = some (.int .i64 p) := (by rw [hw]; simp [AtCells]); have h1 : w2.cell? ⟨w1.heap.size, 0 + 1, none⟩ = some (.iface 78 (.int .i64 20)) := (by rw [hw]; simp [AtCells]); have H01 := Lib.hid (And.intro h0 h1); have HB2 := Lib.hid (HB1.out.trans (hb.mono HB1.out.size)); clear hb hw h0 h1)
    | (go_at_call 23; refine (HR.out w2).mono ?_; rintro e w3 ⟨rfl, hb⟩; have H3 := Lib.hid (And.intro ((hb.cell (p := ⟨w1.heap.size, 0, none⟩) (lt_of_cell H01.out.1)).trans H01.out.1) ((hb.cell (p := ⟨w1.heap.size, 0 + 1, none⟩) (lt_of_cell H01.out.2)).trans H01.out.2)); have HB3 := Lib.hid (HB2.out.trans (hb.mono HB2.out.size)); clear hb)
    | (go_at_call 24; refine (num_at 20 w1.heap.size 0 w3 (HG.out.below HB3.out) H3.out.2).mono ?_; rintro e w4 ⟨rfl, hb⟩; have H4 := Lib.hid ((hb.cell (p := ⟨w1.heap.size, 0, none⟩) (lt_of_cell H3.out.1)).trans H3.out.1); have HB4 := Lib.hid (HB3.out.trans (hb.mono HB3.out.size)); clear hb)
    | (go_at_call 25; refine (pos_at p w1.heap.size 0 w4 (HG.out.below HB4.out) H4.out).mono ?_; rintro e w5 ⟨rfl, hb⟩; have HB5 := Lib.hid (HB4.out.trans (hb.mono HB4.out.size)); clear hb)
    | (go_at_call 26; refine (HRT.out w5).mono ?_; rintro e w6 ⟨rfl, hb⟩; rw [HFD.out]; have HB6 := Lib.hid (HB5.out.trans (hb.mono HB5.out.size)); clear hb))
  go_ret
  exact ⟨rfl, HB6.out⟩
theorem lawDecodes_any (s : ByteArray) (w : World) (hg : ErrTab w) (hs : s.size ≤ 9223372036854775807) :
    Calls Tryd.prog 7 #[.string s] w fun e w' => e = .returned (.bool true) ∧ Below w.heap.size w w' := by
  rcases Nat.lt_or_ge 70000 s.size with h1 | h1
  · exact decodes_long s w hg hs h1
  · rcases Nat.lt_or_ge 65536 s.size with h2 | h2
    · exact decodes_over s w hg h1 h2
    · by_cases hf : faultL (strL s) = -1
      · exact decodes_right s w hg h2 hf
      · exact decodes_wrong s w hg h2 hf
end Go.Proofs.YteniifabfceocaaDoor
