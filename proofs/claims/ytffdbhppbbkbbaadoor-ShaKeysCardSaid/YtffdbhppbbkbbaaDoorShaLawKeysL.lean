/- The walk of the law ShaKeys at a key of more than 64 bytes. -/
import Derived.Test.YtffdbhppbbkbbaaDoorShaLawKeys
namespace Go.Proofs.YtffdbhppbbkbbaaDoor
open Go Go.RowKit

set_option maxRecDepth 100000 in
set_option maxHeartbeats 1000000 in
theorem lawKeys_long (key s : ByteArray) (w : World) (hk : key.size ≤ 5000) (hs : s.size ≤ 20000) (htab : Tabs w) (h64 : 64 < key.size) :
    Calls Tryd.prog 7 #[.string key, .string s] w fun e w' => e = .returned (.bool true) ∧ Below w.heap.size w w' := by
  have hal := alive_any w htab
  have HT := Lib.hid htab
  have hmac := fun (A B : Option Addr) (c d : Nat) (W : World) (hc : key.size ≤ c) (hd : s.size ≤ d) (hl : Lies W A (strL key)) (hl2 : Lies W B (strL s)) (hB : Below w.heap.size w W) => mac_str A B c d key s W (by omega) (by omega) hc hd hl hl2 (htab.below hB)
  obtain ⟨M, hM⟩ : ∃ M, M = macL (strL key) (strL s) := ⟨_, rfl⟩
  have HM32 := Lib.hid (show M.length = 32 by rw [hM, length_macL])
  rw [← hM] at hmac
  obtain ⟨D, hD⟩ : ∃ D, D = digestL (strL key) := ⟨_, rfl⟩
  have HD := Lib.hid (show D.length = 32 ∧ Bytes D from ⟨by rw [hD, length_digestL], by rw [hD]; exact digestL_bd _⟩)
  have hmac2 := fun (g : Nat) (B : Option Addr) (d : Nat) (W : World) (hd : s.size ≤ d) (hg : Blk W g 24 (ints .u8 D)) (hl2 : Lies W B (strL s)) (hB : Below w.heap.size w W) => mac_any (some ⟨g, 0, none⟩) B 32 d D (strL s) W (by rw [HD.out.1]; omega) (by rw [length_strL]; exact hd) (by rw [HD.out.1]; omega) (by rw [length_strL]; omega) HD.out.2 (strL_bd _) (Lies.whole hg) hl2 (htab.below hB)
  have hml : macL D (strL s) = M := by rw [hD, hM]; exact mac_long _ _ (by rw [length_strL]; exact h64)
  rw [HD.out.1, length_strL, hml] at hmac2
  have hsum := fun (A : Option Addr) (c : Nat) (W : World) (hc : key.size ≤ c) (hl : Lies W A (strL key)) (hB : Below w.heap.size w W) => sum_str A c key W (by omega) hc hl (htab.below hB)
  rw [← hD] at hsum
  have heq := fun (W : World) => eql32 M HM32.out W
  have hsw2 := fun (g : Nat) => run_sliceAt_whole (P := Tryd.prog) 24 5 32 Tryd.underlying24 s5 g 0 (by omega)
  have hconv := fun (W : World) => Lib.run_convert_string_bytes (P := Tryd.prog) W 9 26 5 s Tryd.underlying9 Tryd.underlying26 Tryd.underlying5
  clear hM hD hml htab
  go_enter Tryd.func7, Tryd.ntmps7
  go_wp2_with (first
    | (go_at_call 8; refine hal.mono ?_; rintro e w1 ⟨rfl, hB1⟩)
    | (refine wpList_convert_str rfl (some 18) rfl _ _ 5 (.tmp 17) rfl key rfl Tryd.underlying9 Tryd.underlying26 Tryd.underlying5 ?_; intro A1 c1 w2 hl1 hc1 hb; have hB2 := hB1.trans (hb.mono hB1.size); clear hb; try go_frame)
    | (refine wpList_convert_str rfl (some 20) rfl _ _ 5 (.tmp 19) rfl s rfl Tryd.underlying9 Tryd.underlying26 Tryd.underlying5 ?_; intro A2 c2 w3 hl2 hc2 hb; have hB3 := hB2.trans (hb.mono hB2.size); have hl1' := hl1.below hb; clear hb hl1; try go_frame)
    | (go_at_call 12; refine (hmac A1 A2 c1 c2 w3 hc1 hc2 hl1' hl2 hB3).mono ?_; rintro e w4 ⟨rfl, hb⟩; have hB4 := hB3.trans (hb.mono hB3.size); clear hb hl1' hl2)
    | (refine wpList_alloc_blk rfl (some 5) rfl _ rfl _ z24 ?_; intro g5 w5 hg5 hb5 hgr; have h5B : w.heap.size ≤ g5 := Nat.le_trans hB4.size hg5; have hB5 := hB4.grown hgr hB4.size (by simp); clear hgr; try go_frame)
    | (refine wpList_store_blk rfl none rfl _ (.tmp 5) (.tmp 21) rfl g5 0 (ints .u8 M) rfl rfl _ _ hb5 (by simp [HM32.out]) (by rw [s24, length_ints, HM32.out]) (one_ints _ _) ?_; intro w6 hb6 hgr; rw [splice_all _ _ (by simp [HM32.out])] at hb6; have hB6 := hB5.grown hgr hB5.size (by intro k hk; injection hk with hk; omega); clear hgr; try go_frame)
    | (refine wpList_convert_str rfl (some 26) rfl _ _ 5 (.tmp 25) rfl key rfl Tryd.underlying9 Tryd.underlying26 Tryd.underlying5 ?_; intro A3 c3 w7 hl3 hc3 hb; have hB7 := hB6.trans (hb.mono hB6.size); have hb7 := hb6.below hb hb6.lt; clear hb; try go_frame)
    | (go_at_call 10; refine (hsum A3 c3 w7 hc3 hl3 hB7).mono ?_; rintro e w8 ⟨rfl, hb⟩; have hB8 := hB7.trans (hb.mono hB7.size); have hb8 := hb7.below hb hb7.lt; clear hb)
    | (refine wpList_alloc_blk rfl (some 6) rfl _ rfl _ z24 ?_; intro g6 w9 hg6 hb9 hgr; have h56 : g5 < g6 := Nat.lt_of_lt_of_le hb8.lt hg6; have h6B : w.heap.size ≤ g6 := Nat.le_trans hB8.size hg6; have hB9 := hB8.grown hgr hB8.size (by simp); have hb59 := hb8.grownN hgr; clear hgr; try go_frame)
    | (refine wpList_store_blk rfl none rfl _ (.tmp 6) (.tmp 27) rfl g6 0 (ints .u8 D) rfl rfl _ _ hb9 (by simp [HD.out.1]) (by rw [s24, length_ints, HD.out.1]) (one_ints _ _) ?_; intro wa hba hgr; rw [splice_all _ _ (by simp [HD.out.1])] at hba; have hBa := hB9.grown hgr hB9.size (by intro k hk; injection hk with hk; omega); have hb5a := hb59.grown hgr (by intro h; injection h with h; omega); clear hgr; try go_frame))
  have u24 := Tryd.underlying24
  have hi24 : (Tryd.prog.info? 24).map (·.size) = some (ints .u8 M).length := by rw [s24, length_ints, HM32.out]
  have hwb := belowBytes wa.drew 5 s
  have hr0 : wa.drew.rangeAt g5 0 (ints .u8 M) := hb5a.drew.range 0 _ (by simp)
  have hr2 : (Lib.bytesWorld wa.drew 5 s).rangeAt g5 0 (ints .u8 M) := (hb5a.drew.below hwb hb5a.lt).range 0 _ (by simp)
  have hBb : Below w.heap.size w (Lib.bytesWorld wa.drew 5 s) := hBa.drew.trans (hwb.mono hBa.size)
  have hm := (hmac2 g6 _ _ (Lib.bytesWorld wa.drew 5 s) (grownCap_ge wa.drew s.size 0 5) (hba.drew.below hwb hba.lt) (liesBytes wa.drew 5 s) hBb)
  have hb5b := hb5a.drew.below hwb hb5a.lt
  have H5B := Lib.hid (And.intro hb5b hBb)
  clear hmac hmac2 hsum hal hb5b
  refine wp_region_held_drew (S := fun W => W.rangeAt g5 0 (ints .u8 M)) (by kernel_rfl) hr0 (fun hHeld => ?_)
  refine wpAnyH_take (i := 4) (v := .agg (ints .u8 M).toArray) rfl (by kernel_rfl) (by kernel_rfl) (by kernel_rfl) (fun _ _ _ h => h) (yieldsIf_load_mid (by rfl) 24 (.tmp 5) rfl g5 0 rfl (ints .u8 M) _ (fun _ h => h) u24 rfl hi24) hHeld ?_
  try simp only [List.getElem_toArray, List.getElem_cons_succ, List.getElem_cons_zero, Act.put, List.setIfInBounds_toArray, List.set_cons_zero, List.set_cons_succ]
  refine wpAnyH_take (i := 0) (v := ?v0) rfl (by kernel_rfl) (by kernel_rfl) (by kernel_rfl) (fun _ _ _ h => h) (Or.inl ⟨by rfl, ?hy0⟩) (by assumption) ?rest0
  case hy0 => (intro w hSw; first | (go_simp; done) | (go_simp; with_reducible rfl))
  try simp only [List.getElem_toArray, List.getElem_cons_succ, List.getElem_cons_zero, Act.put, List.setIfInBounds_toArray, List.set_cons_zero, List.set_cons_succ]
  refine wpAnyH_take (i := 1) (v := ?v1) rfl (by kernel_rfl) (by kernel_rfl) (by kernel_rfl) (fun _ _ _ h => h) (Or.inl ⟨by rfl, ?hy1⟩) (by assumption) ?rest1
  case hy1 => (intro w hSw; first | (go_simp; done) | (go_simp; with_reducible rfl))
  try simp only [List.getElem_toArray, List.getElem_cons_succ, List.getElem_cons_zero, Act.put, List.setIfInBounds_toArray, List.set_cons_zero, List.set_cons_succ]
  refine wpAnyH_ready (rs := [2]) (by kernel_rfl) (by simp) ?_
  refine AllReadyH.cons rfl (fun K hK => ?_) AllReadyH.nil
  go_simp
  refine hK.out _ _ hr2 (fun hHeld2 => ?_)
  clear hK K
  try simp only [List.getElem_toArray, List.getElem_cons_succ, List.getElem_cons_zero, Act.put, List.setIfInBounds_toArray, List.set_cons_zero, List.set_cons_succ]
  refine wpAnyH_ready (rs := [3]) (by kernel_rfl) (by simp) ?_
  refine AllReadyH.cons rfl (fun K hK => ?_) AllReadyH.nil
  go_simp
  go_at_call 12
  refine hm.mono ?_
  rintro e wc ⟨rfl, hbw⟩
  refine hK.out _ _ ((H5B.out.1.below hbw H5B.out.1.lt).range 0 _ (by simp)) (fun hHeld3 => ?_)
  have hBc := H5B.out.2.trans (hbw.mono H5B.out.2.size)
  clear hK K
  try simp only [List.getElem_toArray, List.getElem_cons_succ, List.getElem_cons_zero, Act.put, List.setIfInBounds_toArray, List.set_cons_zero, List.set_cons_succ]
  refine wpAnyH_take (i := 5) (v := ?v5) rfl (by kernel_rfl) (by kernel_rfl) (by kernel_rfl) (fun _ _ _ h => h) (Or.inl ⟨by rfl, ?hy5⟩) (by assumption) ?rest5
  case hy5 => (intro w hSw; first | (go_simp; done) | (go_simp; with_reducible rfl))
  try simp only [List.getElem_toArray, List.getElem_cons_succ, List.getElem_cons_zero, Act.put, List.setIfInBounds_toArray, List.set_cons_zero, List.set_cons_succ]
  refine wpAnyH_take (i := 6) (v := ?v6) rfl (by kernel_rfl) (by kernel_rfl) (by kernel_rfl) (fun _ _ _ h => h) (Or.inl ⟨by rfl, ?hy6⟩) (by assumption) ?rest6
  case hy6 => (intro w hSw; first | (go_simp; done) | (go_simp; with_reducible rfl))
  try simp only [List.getElem_toArray, List.getElem_cons_succ, List.getElem_cons_zero, Act.put, List.setIfInBounds_toArray, List.set_cons_zero, List.set_cons_succ]
  refine wpAnyH_done (by kernel_rfl) ?_ _
  go_wp2_with fail
  go_ret
  exact ⟨rfl, hBc⟩
end Go.Proofs.YtffdbhppbbkbbaaDoor
