/- The walk of the law ShaKeys at a key of 64 bytes. -/
import Derived.Test.YtffdbhppbbkbbaaDoorShaLawKeys
namespace Go.Proofs.YtffdbhppbbkbbaaDoor
open Go Go.RowKit

set_option maxRecDepth 100000 in
set_option maxHeartbeats 8000000 in
theorem lawKeys_even (key s : ByteArray) (w : World) (hk : key.size ≤ 5000) (hs : s.size ≤ 20000) (htab : Tabs w) (h64 : key.size = 64) :
    Calls Tryd.prog 7 #[.string key, .string s] w fun e w' => e = .returned (.bool true) ∧ Below w.heap.size w w' := by
  have hal := alive_any w htab
  have HT := Lib.hid htab
  have hmac := fun (A B : Option Addr) (c d : Nat) (W : World) (hc : key.size ≤ c) (hd : s.size ≤ d) (hl : Lies W A (strL key)) (hl2 : Lies W B (strL s)) (hB : Below w.heap.size w W) => mac_str A B c d key s W (by omega) (by omega) hc hd hl hl2 (htab.below hB)
  obtain ⟨M, hM⟩ : ∃ M, M = macL (strL key) (strL s) := ⟨_, rfl⟩
  have HM32 := Lib.hid (show M.length = 32 by rw [hM, length_macL])
  rw [← hM] at hmac
  have hdec : (((key.size : Nat) : Int) == 64) = true := by simp; omega
  have h64' := Lib.hid h64
  clear h64
  have h65 : key.size ≤ 64 := by have := h64'.out; omega
  clear hM htab
  go_enter Tryd.func7, Tryd.ntmps7
  go_wp2_with (first
    | (go_at_call 8; refine hal.mono ?_; rintro e w1 ⟨rfl, hB1⟩)
    | (refine wpList_convert_str rfl (some 18) rfl _ _ 5 (.tmp 17) rfl key rfl Tryd.underlying9 Tryd.underlying26 Tryd.underlying5 ?_; intro A1 c1 w2 hl1 hc1 hb; have hB2 := hB1.trans (hb.mono hB1.size); clear hb; try go_frame)
    | (refine wpList_convert_str rfl (some 20) rfl _ _ 5 (.tmp 19) rfl s rfl Tryd.underlying9 Tryd.underlying26 Tryd.underlying5 ?_; intro A2 c2 w3 hl2 hc2 hb; have hB3 := hB2.trans (hb.mono hB2.size); have hl1' := hl1.below hb; clear hb hl1; try go_frame)
    | (go_at_call 12; refine (hmac A1 A2 c1 c2 w3 hc1 hc2 hl1' hl2 hB3).mono ?_; rintro e w4 ⟨rfl, hb⟩; have hB4 := hB3.trans (hb.mono hB3.size); clear hb hl1' hl2)
    | (refine wpList_alloc_blk rfl (some 5) rfl _ rfl _ z24 ?_; intro g5 w5 hg5 hb5 hgr; have h5B : w.heap.size ≤ g5 := Nat.le_trans hB4.size hg5; have hB5 := hB4.grown hgr hB4.size (by simp); clear hgr; try go_frame)
    | (refine wpList_store_blk rfl none rfl _ (.tmp 5) (.tmp 21) rfl g5 0 (ints .u8 M) rfl rfl _ _ hb5 (by simp [HM32.out]) (by rw [s24, length_ints, HM32.out]) (one_ints _ _) ?_; intro w6 hb6 hgr; rw [splice_all _ _ (by simp [HM32.out])] at hb6; have hB6 := hB5.grown hgr hB5.size (by intro k hk; injection hk with hk; omega); clear hgr; try go_frame))
  clear hmac hal
  go_quiet (fail)
  go_wp2_with fail
  go_ret
  exact ⟨rfl, below_drewN hB6 _⟩
end Go.Proofs.YtffdbhppbbkbbaaDoor
