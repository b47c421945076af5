/- The walk of package sha's Mac. -/
import Derived.Test.YteniifabfceocaaDoorShaMac
namespace Go.Proofs.YteniifabfceocaaDoor
open Go Go.RowKit

/-- A block of 32 noughts. -/
def ZBlk (w : World) (g : Nat) : Prop := Blk w g 24 (ints .u8 (List.replicate 32 0))
set_option maxRecDepth 100000 in
set_option maxHeartbeats 1000000 in
theorem mac_any (A B : Option Addr) (c d : Nat) (key xs : List Int) (w : World) (hc : key.length ≤ c) (hd : xs.length ≤ d) (hn : key.length < 2305843009213693952) (hm : xs.length < 1152921504606846976) (hk : Bytes key) (hx : Bytes xs)
    (hl : Lies w A key) (hl2 : Lies w B xs) (htab : Tabs w) :
    Calls Tryd.prog 14 #[.slice A key.length c, .slice B xs.length d] w fun e w' => e = .returned (.agg (ints .u8 (macL key xs)).toArray) ∧ Below w.heap.size w w' := by
  have hfill := fun (W : World) (hB : Below w.heap.size w W) => fillKey_any A c key W hc hn hk (hl.below hB) (htab.below hB)
  have hsw := fun (g : Nat) => run_sliceAt_whole (P := Tryd.prog) 35 5 64 Tryd.underlying35 s5 g 0 (by omega)
  have hsw2 := fun (g : Nat) => run_sliceAt_whole (P := Tryd.prog) 24 5 32 Tryd.underlying24 s5 g 0 (by omega)
  have HKB := Lib.hid (keyL_bd hk)
  have HK64 := Lib.hid (length_keyL key)
  obtain ⟨K, hK⟩ : ∃ K, K = keyL key := ⟨_, rfl⟩
  rw [← hK] at hfill HKB HK64
  have HKD := Lib.hid (fun _ : Unit => hK)
  have HL2 := Lib.hid hl2
  have HT := Lib.hid htab
  have HX := Lib.hid hx
  obtain ⟨n, hn'⟩ : ∃ n, n = xs.length := ⟨_, rfl⟩
  rw [← hn'] at hd hm ⊢
  have HN := Lib.hid hn'
  obtain ⟨n0, hn0⟩ : ∃ n, n = key.length := ⟨_, rfl⟩
  rw [← hn0] at hfill hc hn ⊢
  clear hn0 hK hl hl2 htab hk hx hn'
  go_enter Tryd.func14, Tryd.ntmps14
  go_wp2_with (first
    | (refine wpList_alloc_blk rfl (some 4) rfl _ rfl _ z24 ?_; intro g4 w2 hg4 hb4 hgr; have hB := (Below.refl _ w).grown hgr (Nat.le_refl _) (by simp); clear hgr; try go_frame)
    | (go_at_call 29; refine (hfill _ hB).mono ?_; rintro e w3 ⟨rfl, hbw⟩; have hB3 := hB.trans (hbw.mono hB.size); have hb43 := hb4.below hbw hb4.lt; clear hbw hfill)
    | (refine wpList_alloc_blk rfl (some 5) rfl _ rfl _ z35 ?_; intro g5 w4 hg5 hb5 hgr; have h45 : g4 < g5 := Nat.lt_of_lt_of_le hb43.lt hg5; have h4B : w.heap.size ≤ g4 := hg4; have h5B : w.heap.size ≤ g5 := Nat.le_trans hB3.size hg5; have hB4 := hB3.grown hgr hB3.size (by simp); have hb44 := hb43.grownN hgr; clear hgr hB; try go_frame)
    | (refine wpList_store_blk rfl none rfl _ (.tmp 5) (.tmp 10) rfl g5 0 (ints .u8 K) rfl rfl _ _ hb5 (by simp [HK64.out]) (by rw [s35, length_ints, HK64.out]) (one_ints _ _) ?_; intro w5 hb55 hgr; rw [splice_all _ _ (by simp [HK64.out])] at hb55; have hB5 := hB4.grown hgr hB4.size (by intro k hk; injection hk with hk; omega); have hb45 := hb44.grown hgr (by intro h; injection h with h; omega); clear hgr; try go_frame)
    | (refine wpList_load_blk rfl (some 11) rfl _ (.tmp 5) rfl _ 0 rfl _ _ hb55 (ints .u8 K) (by simp) _ Tryd.underlying35 rfl (by rw [s35, length_ints, HK64.out]) ?_; try go_frame)
    | (refine wpList_alloc_blk rfl (some 6) rfl _ rfl _ z35 ?_; intro g6 w6 hg6 hb6 hgr; have h56 : g5 < g6 := Nat.lt_of_lt_of_le hb55.lt hg6; have h6B : w.heap.size ≤ g6 := Nat.le_trans hB5.size hg6; have hB6 := hB5.grown hgr hB5.size (by simp); have hb46 := hb45.grownN hgr; have hb56 := hb55.grownN hgr; clear hgr; try go_frame)
    | (refine wpList_store_blk rfl none rfl _ (.tmp 6) (.tmp 11) rfl g6 0 (ints .u8 K) rfl rfl _ _ hb6 (by simp [HK64.out]) (by rw [s35, length_ints, HK64.out]) (one_ints _ _) ?_; intro w7 hb67 hgr; rw [splice_all _ _ (by simp [HK64.out])] at hb67; have hB7 := hB6.grown hgr hB6.size (by intro k hk; injection hk with hk; omega); have hb47 := hb46.grown hgr (by intro h; injection h with h; omega); have hb57 := hb56.grown hgr (by intro h; injection h with h; omega); clear hgr; try go_frame))
  have H7 := Lib.hid (And.intro hB7 (And.intro hb47 (And.intro hb57 hb67)))
  clear hB7 hb47 hb57 hb67 hb45 hb46 hb56 hb55 hb44 hb43 hb4 hb5 hb6 hB6 hB5 hB4 hB3
  go_loopw [12] (fun i wr => ∃ j : Nat, j ≤ 64 ∧ i = .int .i64 j ∧ Below w.heap.size w wr ∧ Blk wr g4 24 (ints .u8 (List.replicate 32 0)) ∧ Blk wr g5 35 (ints .u8 (xorK K 54 j)) ∧ Blk wr g6 35 (ints .u8 (xorK K 92 j))) (fun i _ => 64 - (intOf i).toNat)
  case atStart => exact ⟨0, by omega, rfl, H7.out.1, H7.out.2.1, H7.out.2.2.1, H7.out.2.2.2⟩
  case round =>
    obtain ⟨j, hj, rfl, hB, hb4, hb5, hb6⟩ := hrel
    by_cases hlt : j < 64
    · have gx := get_ints .u8 (xorK K 54 j) j (by rw [length_xorK, HK64.out]; exact hlt)
      have gy := get_ints .u8 (xorK K 92 j) j (by rw [length_xorK, HK64.out]; exact hlt)
      obtain ⟨hx0, hx1⟩ := xorK_bd HKB.out 54 j j
      obtain ⟨hy0, hy1⟩ := xorK_bd HKB.out 92 j j
      have HSX : Hid (∀ _ : Unit, (ints .u8 (xorK K 54 j)).set j (.int .u8 (bits .xor .u8 ((xorK K 54 j).getD j 0) 54)) = ints .u8 (xorK K 54 (j + 1))) := Lib.hid (fun _ => by rw [set_ints]; exact rfl)
      have HSY : Hid (∀ _ : Unit, (ints .u8 (xorK K 92 j)).set j (.int .u8 (bits .xor .u8 ((xorK K 92 j).getD j 0) 92)) = ints .u8 (xorK K 92 (j + 1))) := Lib.hid (fun _ => by rw [set_ints]; exact rfl)
      obtain ⟨x, hx⟩ : ∃ x, x = (xorK K 54 j).getD j 0 := ⟨_, rfl⟩
      obtain ⟨y, hy⟩ : ∃ x, x = (xorK K 92 j).getD j 0 := ⟨_, rfl⟩
      rw [← hx] at gx hx0 hx1 HSX
      rw [← hy] at gy hy0 hy1 HSY
      have GX := Lib.hid gx
      have GY := Lib.hid gy
      clear hx hy gx gy
      go_wp2_with (first
        | (refine wpList_load_cell rfl (some 17) rfl _ (.tmp 16) rfl g5 j rfl _ _ hb5 (.int .u8 x) GX.out .u8 Tryd.underlying5 ?_)
        | (refine wpList_store_cell rfl none rfl _ (.tmp 19) (.tmp 18) rfl g5 j (.int .u8 (bits .xor .u8 x 54)) rfl rfl rfl _ _ hb5 (by rw [length_ints, length_xorK, HK64.out]; exact hlt) s5 ?_; intro wa hb5a hgr; have hBa := hB.grown hgr hB.size (by intro k hk; injection hk with hk; omega); have hb4a := hb4.grown hgr (by intro h; injection h with h; omega); have hb6a := hb6.grown hgr (by intro h; injection h with h; omega); clear hgr; try go_frame)
        | (refine wpList_load_cell rfl (some 22) rfl _ (.tmp 21) rfl g6 j rfl _ _ hb6a (.int .u8 y) GY.out .u8 Tryd.underlying5 ?_)
        | (refine wpList_store_cell rfl none rfl _ (.tmp 24) (.tmp 23) rfl g6 j (.int .u8 (bits .xor .u8 y 92)) rfl rfl rfl _ _ hb6a (by rw [length_ints, length_xorK, HK64.out]; exact hlt) s5 ?_; intro wb hb6b hgr; have hBb := hBa.grown hgr hBa.size (by intro k hk; injection hk with hk; omega); have hb4b := hb4a.grown hgr (by intro h; injection h with h; omega); have hb5b := hb5a.grown hgr (by intro h; injection h with h; omega); clear hgr; try go_frame))
      rw [HSX.out ()] at hb5b
      rw [HSY.out ()] at hb6b
      go_roundw
      case rel => exact ⟨j + 1, by omega, by go_num, hBb, hb4b, hb5b, hb6b⟩
      case measure => simp [intOf]; omega
    · have hj64 : j = 64 := by omega
      have HI : Hid ((xorK K 54 64).length = 64 ∧ Bytes (xorK K 54 64)) := Lib.hid ⟨by rw [length_xorK, HK64.out], xorK_bd HKB.out 54 64⟩
      have HO : Hid ((xorK K 92 64).length = 64 ∧ Bytes (xorK K 92 64)) := Lib.hid ⟨by rw [length_xorK, HK64.out], xorK_bd HKB.out 92 64⟩
      rw [hj64] at hb5 hb6
      obtain ⟨I, hI⟩ : ∃ I, I = xorK K 54 64 := ⟨_, rfl⟩
      obtain ⟨O, hO⟩ : ∃ I, I = xorK K 92 64 := ⟨_, rfl⟩
      rw [← hI] at hb5 HI
      rw [← hO] at hb6 HO
      have HID := Lib.hid (fun _ : Unit => hI)
      have HOD := Lib.hid (fun _ : Unit => hO)
      clear hI hO hj64 H7
      have hj1 := fun (W : World) (hBW : Below w.heap.size w W) (h5 : Blk W g5 35 (ints .u8 I)) => join_two (some ⟨g5, 0, none⟩) B 64 d I xs W (by rw [HI.out.1]; omega) (by rw [← HN.out]; exact hd) (by rw [HI.out.1, ← HN.out]; omega) HI.out.2 HX.out (Lies.whole h5) (HL2.out.below hBW) (HT.out.below hBW) 26
      obtain ⟨D, hD⟩ : ∃ D, D = digestL (I ++ xs) := ⟨_, rfl⟩
      have HD : Hid (D.length = 32 ∧ Bytes D) := Lib.hid ⟨by rw [hD, length_digestL], by rw [hD]; exact digestL_bd _⟩
      rw [← hD, HI.out.1, ← HN.out] at hj1
      have HDD := Lib.hid (fun _ : Unit => hD)
      clear hD
      have hj2 := fun (W : World) (hBW : Below w.heap.size w W) (g8 : Nat) (h6 : Blk W g6 35 (ints .u8 O)) (h8 : Blk W g8 24 (ints .u8 D)) => join_two (some ⟨g6, 0, none⟩) (some ⟨g8, 0, none⟩) 64 32 O D W (by rw [HO.out.1]; omega) (by rw [HD.out.1]; omega) (by rw [HO.out.1, HD.out.1]; omega) HO.out.2 HD.out.2 (Lies.whole h6) (Lies.whole h8) (HT.out.below hBW) 26
      obtain ⟨E, hE⟩ : ∃ E, E = digestL (O ++ D) := ⟨_, rfl⟩
      have hE32 : E.length = 32 := by rw [hE, length_digestL]
      rw [← hE, HO.out.1, HD.out.1] at hj2
      have HE : Hid (∀ _ : Unit, macL key xs = E) := Lib.hid (fun _ => by rw [hE, HDD.out (), HOD.out (), HID.out (), HKD.out ()]; rfl)
      clear hE
      have hdec : decide ((j : Int) < 64) = false := by simp; omega
      go_wp2_with (first
        | (go_at_call 18; refine (hj1 _ hB hb5).mono ?_; rintro e wa ⟨rfl, hbw⟩; have hBa := hB.trans (hbw.mono hB.size); have hb4a := hb4.below hbw hb4.lt; have hb6a := hb6.below hbw hb6.lt; clear hbw hj1)
        | (refine wpList_alloc_blk rfl (some 8) rfl _ rfl _ z24 ?_; intro g8 wb hg8 hb8 hgr; have h68 : g6 < g8 := Nat.lt_of_lt_of_le hb6a.lt hg8; have h8B : w.heap.size ≤ g8 := Nat.le_trans hBa.size hg8; have hBb := hBa.grown hgr hBa.size (by simp); have hb4b := hb4a.grownN hgr; have hb6b := hb6a.grownN hgr; clear hgr hBa; try go_frame)
        | (refine wpList_store_blk rfl none rfl _ (.tmp 8) (.tmp 29) rfl g8 0 (ints .u8 D) rfl rfl _ _ hb8 (by simp [HD.out.1]) (by rw [s24, length_ints, HD.out.1]) (one_ints _ _) ?_; intro wc hb8c hgr; rw [splice_all _ _ (by simp [HD.out.1])] at hb8c; have hBc := hBb.grown hgr hBb.size (by intro k hk; injection hk with hk; omega); have hb4c := hb4b.grown hgr (by intro h; injection h with h; omega); have hb6c := hb6b.grown hgr (by intro h; injection h with h; omega); clear hgr; try go_frame))
      have hstore : ∀ W, ZBlk W g4 → (storeCells ⟨g4, 0, none⟩ (ints .u8 E) 0).run Tryd.prog W = .ok () (W.setCells g4 0 (ints .u8 E)) := fun W h => by
        have := run_storeCells_cells (P := Tryd.prog) g4 0 (ints .u8 E) 0 W (fun j hj => by simpa using ((Blk.there (show Blk W g4 _ _ from h) 0 32 (by simp)) j (by rw [length_ints, hE32] at hj; exact hj)).1) (fun j hj => by simpa using ((Blk.there (show Blk W g4 _ _ from h) 0 32 (by simp)) j (by rw [length_ints, hE32] at hj; exact hj)).2) (one_ints _ _)
        simpa using this
      go_region_law (go_simp; go_at_call 18; refine (hj2 wc.drew ((Below.refl _ w).trans hBc).drew g8 hb6c.drew hb8c.drew).mono ?_; rintro e wd ⟨rfl, hbw⟩; have hb4d : ZBlk wd g4 := (hb4c.drew).below hbw hb4c.lt; have hBd := hBc.drew.trans (hbw.mono hBc.size))
      have h9 := setCells_heap g4 _ (ints .u8 E) 0 _ wd hb4d (by rw [length_ints, length_ints, hE32, List.length_replicate]; omega)
      rw [splice_all _ _ (by simp [hE32])] at h9
      have hB9 := hBd.grown h9.2 hBd.size (by intro k hk; injection hk with hk; omega)
      have hb9 := h9.1
      clear hstore hj2 h9
      generalize wd.setCells g4 0 (ints .u8 E) = w9 at *
      have HE32 := Lib.hid hE32
      clear hE32
      go_wp2_with fail
      exact bodyPost_ret (v := .agg (ints .u8 E).toArray) (results_blk Tryd.results14 _ _ g4 _ _ _ rfl hb9 Tryd.underlying24 rfl (by rw [s24, length_ints, HE32.out])) rfl ⟨by rw [HE.out ()], hB9⟩
end Go.Proofs.YteniifabfceocaaDoor
