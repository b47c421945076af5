/- The walk of layer 3's alive: the chapter's examples. -/
import Derived.Test.YtaepfdkbefojmaaDoorUtfCheck
import Derived.Test.YtaepfdkbefojmaaDoorErrNum
import Derived.Lib.SlBytesConst
namespace Go.Proofs.YtaepfdkbefojmaaDoor
open Go Go.RowKit

theorem nx_euro : nxL [226, 130, 172] = (8364, 3) := by decide
theorem nx_over : nxL [192, 128] = (-1, 1) := by decide
theorem bad_surr : badU [65, 237, 160, 128] = 1 := by decide
theorem byt3 : Bytes [226, 130, 172] := .of_mem (by decide)
theorem byt2 : Bytes [192, 128] := .of_mem (by decide)
theorem byt4 : Bytes [65, 237, 160, 128] := .of_mem (by decide)
set_option maxRecDepth 100000 in
set_option maxHeartbeats 1000000 in
theorem alive3_any (w : World) (hg : ErrTab w) (hm : Marks w) : Calls Tryd.prog 7 #[] w fun e w' => e = .returned (.bool true) ∧ Below w.heap.size w w' := by
  have HN1 := Lib.hid (fun (W : World) (hM : Marks W) => next_any (some ⟨W.heap.size, 0, none⟩) [226, 130, 172] 3 3 (W.alloc (.cells (ints .u8 [226, 130, 172]).toArray 5 (3, 4))) (hM.below (belowAlloc _ _)) rfl (by omega) (by omega) byt3 (Lies.lit W _ _ _))
  have HN2 := Lib.hid (fun (W : World) (hM : Marks W) => next_any (some ⟨W.heap.size, 0, none⟩) [192, 128] 2 2 (W.alloc (.cells (ints .u8 [192, 128]).toArray 5 (2, 3))) (hM.below (belowAlloc _ _)) rfl (by omega) (by omega) byt2 (Lies.lit W _ _ _))
  have HCK := Lib.hid (fun (W : World) (hM : Marks W) => check_any (some ⟨W.heap.size, 0, none⟩) [65, 237, 160, 128] 4 4 (W.alloc (.cells (ints .u8 [65, 237, 160, 128]).toArray 5 (4, 5))) (hM.below (belowAlloc _ _)) rfl (by omega) byt4 (Lies.lit W _ _ _))
  rw [nx_euro] at HN1
  rw [nx_over] at HN2
  have kc := fun (w : World) (C : Array Value) (n c : Nat) => Lib.run_convert_bytes_const (P := Tryd.prog) w 25 5 C n c Tryd.underlying25 Tryd.underlying5
  have HG := Lib.hid hg
  have HM := Lib.hid hm
  clear hg hm
  go_enter Tryd.func7, Tryd.ntmps7
  go_wp2_with fail
  refine (HN1.out _ HM.out).mono ?_
  rintro e w1 ⟨rfl, hb⟩
  have H1 := Lib.hid ((belowAlloc w _).trans (hb.mono (by simp)))
  clear hb
  go_wp2_with fail
  refine (HN2.out _ (HM.out.below H1.out)).mono ?_
  rintro e w2 ⟨rfl, hb⟩
  have H2 := Lib.hid (H1.out.trans (((belowAlloc w1 _).trans (hb.mono (by simp))).mono H1.out.size))
  clear hb
  go_wp2_with fail
  refine (HCK.out _ (HM.out.below H2.out)).mono ?_
  rintro e w3 hck
  obtain ⟨h0, _⟩ | ⟨_, b, rfl, h0, h1, hb0, hb⟩ := hck
  · rw [bad_surr] at h0; exact absurd h0 (by decide)
  rw [bad_surr] at h0
  have H3 := Lib.hid (H2.out.trans (((belowAlloc w2 _).trans (hb.mono (by simp))).mono H2.out.size))
  have HC := Lib.hid (And.intro h0 h1)
  clear hb h0 h1 hb0
  go_wp2_with fail
  refine (num_at 30 b 0 w3 (HG.out.below H3.out) HC.out.2).mono ?_
  rintro e w4 ⟨rfl, hb4⟩
  have H4 := Lib.hid (H3.out.trans (hb4.mono H3.out.size))
  have HC4 := Lib.hid ((hb4.cell (p := ⟨b, 0, none⟩) (lt_of_cell HC.out.1)).trans HC.out.1)
  clear hb4
  go_wp2_with fail
  refine (pos_at 1 b 0 w4 (HG.out.below H4.out) HC4.out).mono ?_
  rintro e w5 ⟨rfl, hb5⟩
  have H5 := Lib.hid (H4.out.trans (hb5.mono H4.out.size))
  clear hb5
  go_wp2_with fail
  go_ret
  exact ⟨rfl, H5.out⟩
end Go.Proofs.YtaepfdkbefojmaaDoor
