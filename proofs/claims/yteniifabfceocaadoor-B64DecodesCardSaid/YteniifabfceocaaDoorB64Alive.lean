/- The walk of layer 2's alive: the chapter's examples. -/
import Derived.Test.YteniifabfceocaaDoorB64Encode
import Derived.Test.YteniifabfceocaaDoorErrNum
namespace Go.Proofs.YteniifabfceocaaDoor
open Go Go.RowKit

theorem fault_dash : faultL (strL ⟨#[45, 95, 57]⟩) = 2 := by decide
theorem fault_ok : faultL (strL ⟨#[45, 95, 56]⟩) = -1 := by decide
theorem enc_two : (⟨(toU (encL [251, 255])).toArray⟩ : ByteArray) = ⟨#[45, 95, 56]⟩ := by decide
theorem two_bytes : Bytes [251, 255] := .of_mem (by decide)
set_option maxRecDepth 100000 in
set_option maxHeartbeats 1000000 in
theorem alive2_any (w : World) (hg : ErrTab w) : Calls Tryd.prog 19 #[] w fun e w' => e = .returned (.bool true) ∧ Below w.heap.size w w' := by
  have hdec := decode_wrong ⟨#[45, 95, 57]⟩ w (by decide) (by rw [fault_dash]; decide)
  rw [fault_dash] at hdec
  have HD := Lib.hid hdec
  have HE := Lib.hid (fun (W : World) => encode_any (some ⟨W.heap.size, 0, none⟩) [251, 255] 2 2 (W.alloc (.cells (ints .u8 [251, 255]).toArray 5)) rfl (by decide) two_bytes (Lies.lit W _ _ _) (by decide))
  have HR := Lib.hid (fun (W : World) => right_any ⟨#[45, 95, 56]⟩ W (by decide))
  clear hdec
  have HG := Lib.hid hg
  clear hg
  go_enter Tryd.func19, Tryd.ntmps19
  go_wp2_with fail
  refine HD.out.mono ?_
  rintro e w1 ⟨rfl, hw1⟩
  have hB1 : Below w.heap.size w w1 := by rw [hw1]; exact belowAlloc _ _
  have h0 : w1.cell? ⟨w.heap.size, 0, none⟩ = some (.int .i64 2) := by rw [hw1]; simp [AtCells]
  have h1 : w1.cell? ⟨w.heap.size, 0 + 1, none⟩ = some (.iface 78 (.int .i64 20)) := by rw [hw1]; simp [AtCells]
  have H01 := Lib.hid (And.intro hB1 (And.intro h0 h1))
  clear hw1 hB1 h0 h1
  go_wp2_with fail
  refine (HE.out w1).mono ?_
  rintro e w2 ⟨rfl, hb2⟩
  rw [enc_two]
  have H2 := Lib.hid ((belowAlloc w1 _).trans (hb2.mono (by simp)))
  clear hb2
  go_wp2_with fail
  refine (HR.out w2).mono ?_
  rintro e w3 ⟨rfl, hb3⟩
  rw [decide_eq_true fault_ok]
  have H3 := Lib.hid (H2.out.trans (hb3.mono H2.out.size))
  clear hb3
  go_wp2_with fail
  have hlt1 := lt_of_cell H01.out.2.1
  have HB3 := Lib.hid (H01.out.1.trans (H3.out.mono H01.out.1.size))
  refine (num_at 20 w.heap.size 0 w3 (HG.out.below HB3.out) ((H3.out.cell (p := ⟨w.heap.size, 0 + 1, none⟩) hlt1).trans H01.out.2.2)).mono ?_
  rintro e w4 ⟨rfl, hb4⟩
  have H4 := Lib.hid (H3.out.trans (hb4.mono H3.out.size))
  have HB4 := Lib.hid (HB3.out.trans (hb4.mono HB3.out.size))
  clear hb4
  go_wp2_with fail
  refine (pos_at 2 w.heap.size 0 w4 (HG.out.below HB4.out) ((H4.out.cell (p := ⟨w.heap.size, 0, none⟩) hlt1).trans H01.out.2.1)).mono ?_
  rintro e w5 ⟨rfl, hb5⟩
  have HB5 := Lib.hid (HB4.out.trans (hb5.mono HB4.out.size))
  clear hb5
  go_wp2_with fail
  go_ret
  exact ⟨rfl, HB5.out⟩
end Go.Proofs.YteniifabfceocaaDoor
