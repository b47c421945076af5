/- The walks of package sha's fillKey and Mac. -/
import Derived.Test.YteniifabfceocaaDoorShaJoin
namespace Go.Proofs.YteniifabfceocaaDoor
open Go Go.RowKit

/-- A key's block. -/
def keyL (key : List Int) : List Int := if 64 < key.length then splice (List.replicate 64 0) 0 (digestL key) else splice (List.replicate 64 0) 0 key
theorem length_keyL (key : List Int) : (keyL key).length = 64 := by
  unfold keyL
  split
  · rw [length_splice _ _ _ (by rw [length_digestL, List.length_replicate]; omega), List.length_replicate]
  · rw [length_splice _ _ _ (by rw [List.length_replicate]; omega), List.length_replicate]
theorem keyL_bd {key : List Int} (h : Bytes key) : Bytes (keyL key) := by
  unfold keyL
  split
  · exact (Bytes.rep 64).splice (digestL_bd key) 0
  · exact (Bytes.rep 64).splice h 0
/-- A block, its first j bytes turned by c. -/
def xorK (K : List Int) (c : Int) : Nat → List Int
  | 0 => K
  | j + 1 => (xorK K c j).set j (bits .xor .u8 ((xorK K c j).getD j 0) c)
@[simp] theorem length_xorK (K : List Int) (c : Int) : ∀ j, (xorK K c j).length = K.length
  | 0 => rfl
  | j + 1 => by simp [xorK, length_xorK K c j]
theorem bits_u8 (op : BinOp) (x y : Int) : 0 ≤ bits op .u8 x y ∧ bits op .u8 x y ≤ 255 := by
  unfold bits; simp only [IntKind.wrap_u8]; omega
theorem xorK_bd {K : List Int} (h : Bytes K) (c : Int) : ∀ j, Bytes (xorK K c j)
  | 0 => h
  | j + 1 => fun i => set_bd _ _ _ (bits_u8 _ _ _) (xorK_bd h c j) i
/-- THE TAG. -/
def macL (key b : List Int) : List Int := digestL (xorK (keyL key) 92 64 ++ digestL (xorK (keyL key) 54 64 ++ b))

theorem splice_ints (k : IntKind) (l m : List Int) (n : Nat) : splice (ints k l) n (ints k m) = ints k (splice l n m) := by simp [splice, ints]

theorem Lies.all {w : World} {A : Option Addr} {xs : List Int} (h : Lies w A xs) : 0 < (ints .u8 xs).length → ∃ ad, A = some ad ∧ ∀ j v, (ints .u8 xs)[j]? = some v → w.cell? (ad.add j) = some v := fun hp => by
  obtain ⟨b, o, e, _, _, hc⟩ := h (by simpa using hp)
  exact ⟨_, e, fun j v hv => by rw [Addr.add_mid]; exact hc j v hv⟩

set_option maxRecDepth 100000 in
set_option maxHeartbeats 400000 in
theorem fillKey_any (A : Option Addr) (c : Nat) (key : List Int) (w : World) (hc : key.length ≤ c) (hn : key.length < 2305843009213693952) (hx : Bytes key) (hl : Lies w A key) (htab : Tabs w) :
    Calls Tryd.prog 29 #[.slice A key.length c] w fun e w' => e = .returned (.agg (ints .u8 (keyL key)).toArray) ∧ Below w.heap.size w w' := by
  have hsw := fun (g : Nat) => run_sliceAt_whole (P := Tryd.prog) 35 5 64 Tryd.underlying35 s5 g 0 (by omega)
  have hsw2 := fun (g : Nat) => run_sliceAt_whole (P := Tryd.prog) 24 5 32 Tryd.underlying24 s5 g 0 (by omega)
  have hsum := fun (W : World) (hB : Below w.heap.size w W) => sum_any A c key W hc hn hx (hl.below hB) (htab.below hB)
  have HL := Lib.hid hl
  obtain ⟨D, hD⟩ : ∃ D, D = digestL key := ⟨_, rfl⟩
  have HD32 := Lib.hid (show D.length = 32 by rw [hD, length_digestL])
  rw [← hD] at hsum
  obtain ⟨n, hn'⟩ : ∃ n, n = key.length := ⟨_, rfl⟩
  have HK1 : Hid (∀ _ : Unit, 64 < n → keyL key = splice (List.replicate 64 0) 0 D) := Lib.hid (fun _ h => by rw [keyL, if_pos (by omega), hD])
  have HK2 : Hid (∀ _ : Unit, ¬ 64 < n → keyL key = splice (List.replicate 64 0) 0 key) := Lib.hid (fun _ h => by rw [keyL, if_neg (by omega)])
  have hn61 : n < 2305843009213693952 := by omega
  rw [← hn'] at hsum ⊢
  have HN := Lib.hid hn'
  clear htab hl hx hD hn' hn hc
  by_cases h64 : 64 < n
  · go_enter Tryd.func29, Tryd.ntmps29
    go_wp2_with (first
      | (refine wpList_alloc_blk rfl (some 2) rfl _ rfl _ z35 ?_; intro g2 w2 hg2 hb2 hgr; have hB := (Below.refl _ w).grown hgr (Nat.le_refl _) (by simp); clear hgr; try go_frame)
      | (refine wpList_alloc_blk rfl (some 3) rfl _ rfl _ z35 ?_; intro g3 w3 hg3 hb3 hgr; have h23 : g2 < g3 := Nat.lt_of_lt_of_le hb2.lt hg3; have h3B : w.heap.size ≤ g3 := Nat.le_trans hB.size hg3; have hB3 := hB.grown hgr hB.size (by simp); have hb23 := hb2.grownN hgr; clear hgr hB hb2; try go_frame)
      | (go_at_call 12; refine (hsum _ hB3).mono ?_; rintro e w4 ⟨rfl, hbw⟩; have hB4 := hB3.trans (hbw.mono hB3.size); have hb24 := hb23.below hbw hb23.lt; have hb34 := hb3.below hbw hb3.lt; clear hbw hsum)
      | (refine wpList_alloc_blk rfl (some 4) rfl _ rfl _ z24 ?_; intro g5 w5 hg5 hb5 hgr; have h35 : g3 < g5 := Nat.lt_of_lt_of_le hb34.lt hg5; have h5B : w.heap.size ≤ g5 := Nat.le_trans hB4.size hg5; have hB5 := hB4.grown hgr hB4.size (by simp); have hb25 := hb24.grownN hgr; have hb35 := hb34.grownN hgr; clear hgr hB4; try go_frame)
      | (refine wpList_store_blk rfl none rfl _ (.tmp 4) (.tmp 9) rfl g5 0 (ints .u8 D) rfl rfl _ _ hb5 (by simp [HD32.out]) (by rw [s24, length_ints, HD32.out]) (one_ints _ _) ?_; intro w6 hb6 hgr; rw [splice_all _ _ (by simp [HD32.out])] at hb6; have hB6 := hB5.grown hgr hB5.size (by intro k hk; injection hk with hk; omega); have hb26 := hb25.grown hgr (by intro h; injection h with h; omega); have hb36 := hb35.grown hgr (by intro h; injection h with h; omega); clear hgr; try go_frame))
    have hrd : ∀ j v, (ints .u8 D)[j]? = some v → w6.drew.cell? ((⟨g5, 0, none⟩ : Addr).add j) = some v := fun j v hv => by
      rw [Addr.add_mid, Nat.zero_add]
      exact (hb6.cell j).trans hv
    go_region_law (refine step_copy_blk (w := w6.drew) rfl (.tmp 10) (.tmp 11) _ _ rfl 5 Tryd.underlying26 s5 (some ⟨g3, 0, none⟩) (some ⟨g5, 0, none⟩) 64 64 32 32 (by simp [Act.eval, Act.put]) (by simp [Act.eval, Act.put]) g3 0 _ _ hb36.drew (ints .u8 D) 32 (by rw [length_ints, HD32.out]) rfl (fun _ => ⟨rfl, _, rfl, hrd⟩) (by rw [length_ints, length_ints, HD32.out, List.length_replicate]; omega) (one_ints _ _) ?_; intro w7 hb7 hgr)
    rw [splice_ints] at hb7
    have hgr' : w6.grownBy w7 (some g3) := (grownBy_drew (grownBy_refl w6 _)).trans hgr
    have hB7 := hB6.grown hgr' hB6.size (by intro k hk; injection hk with hk; omega)
    have hb27 := hb26.grown hgr' (by intro h; injection h with h; omega)
    obtain ⟨M, hM⟩ : ∃ M, M = splice (List.replicate 64 (0 : Int)) 0 D := ⟨_, rfl⟩
    have HM64 := Lib.hid (show M.length = 64 by rw [hM, length_splice _ _ _ (by rw [HD32.out, List.length_replicate]; omega), List.length_replicate])
    rw [← hM] at hb7
    have HM := Lib.hid (fun _ : Unit => hM)
    clear hM hrd hgr hgr' hB6 hb26 hb36 hb6
    go_wp2_with (first
      | (refine wpList_load_blk rfl (some 13) rfl _ (.tmp 3) rfl _ 0 rfl _ _ hb7 (ints .u8 M) (by simp) _ Tryd.underlying35 rfl (by rw [s35, length_ints, HM64.out]) ?_; try go_frame)
      | (refine wpList_store_blk rfl none rfl _ (.tmp 2) (.tmp 13) rfl g2 0 (ints .u8 M) rfl rfl _ _ hb27 (by simp [HM64.out]) (by rw [s35, length_ints, HM64.out]) (one_ints _ _) ?_; intro w8 hb8 hgr; rw [splice_all _ _ (by simp [HM64.out])] at hb8; have hB8 := hB7.grown hgr hB7.size (by intro k hk; injection hk with hk; omega); clear hgr; try go_frame))
    exact bodyPost_ret (v := .agg (ints .u8 M).toArray) (results_blk Tryd.results29 _ _ g2 _ _ _ rfl hb8 Tryd.underlying35 rfl (by rw [s35, length_ints, HM64.out])) rfl ⟨by rw [HM.out (), HK1.out () h64], hB8⟩
  · have HM64 := Lib.hid (show (splice (List.replicate 64 (0 : Int)) 0 key).length = 64 by rw [length_splice _ _ _ (by rw [← HN.out, List.length_replicate]; omega), List.length_replicate])
    obtain ⟨M, hM⟩ : ∃ M, M = splice (List.replicate 64 (0 : Int)) 0 key := ⟨_, rfl⟩
    rw [← hM] at HM64
    have HM := Lib.hid (fun _ : Unit => hM)
    clear hM
    have hmin : n = Nat.min n 64 := (Nat.min_eq_left (by omega)).symm
    have HMIN := Lib.hid hmin
    clear hmin
    go_enter Tryd.func29, Tryd.ntmps29
    go_wp2_with (first
      | (refine wpList_alloc_blk rfl (some 2) rfl _ rfl _ z35 ?_; intro g2 w2 hg2 hb2 hgr; have hB := (Below.refl _ w).grown hgr (Nat.le_refl _) (by simp); clear hgr; try go_frame)
      | (refine wpList_alloc_blk rfl (some 3) rfl _ rfl _ z35 ?_; intro g3 w3 hg3 hb3 hgr; have h23 : g2 < g3 := Nat.lt_of_lt_of_le hb2.lt hg3; have h3B : w.heap.size ≤ g3 := Nat.le_trans hB.size hg3; have hB3 := hB.grown hgr hB.size (by simp); have hb23 := hb2.grownN hgr; clear hgr hB hb2; try go_frame)
      | (refine wpList_copy_blk rfl (some 16) rfl (.tmp 14) (.tmp 15) _ _ rfl 5 Tryd.underlying26 s5 (some ⟨g3, 0, none⟩) A 64 64 n c rfl rfl g3 0 _ _ hb3 (ints .u8 key) n (by rw [length_ints, ← HN.out]) HMIN.out (fun hp => ⟨rfl, (HL.out.below hB3).all hp⟩) (by rw [length_ints, length_ints, ← HN.out, List.length_replicate]; omega) (one_ints _ _) ?_; intro w7 hb7 hgr; rw [splice_ints, ← HM.out ()] at hb7; have hB7 := hB3.grown hgr hB3.size (by intro k hk; injection hk with hk; omega); have hb27 := hb23.grown hgr (by intro h; injection h with h; omega); clear hgr; try go_frame)
      | (refine wpList_load_blk rfl (some 17) rfl _ (.tmp 3) rfl _ 0 rfl _ _ hb7 (ints .u8 M) (by simp) _ Tryd.underlying35 rfl (by rw [s35, length_ints, HM64.out]) ?_; try go_frame)
      | (refine wpList_store_blk rfl none rfl _ (.tmp 2) (.tmp 17) rfl g2 0 (ints .u8 M) rfl rfl _ _ hb27 (by simp [HM64.out]) (by rw [s35, length_ints, HM64.out]) (one_ints _ _) ?_; intro w8 hb8 hgr; rw [splice_all _ _ (by simp [HM64.out])] at hb8; have hB8 := hB7.grown hgr hB7.size (by intro k hk; injection hk with hk; omega); clear hgr; try go_frame))
    exact bodyPost_ret (v := .agg (ints .u8 M).toArray) (results_blk Tryd.results29 _ _ g2 _ _ _ rfl hb8 Tryd.underlying35 rfl (by rw [s35, length_ints, HM64.out])) rfl ⟨by rw [HM.out (), HK2.out () h64], hB8⟩
end Go.Proofs.YteniifabfceocaaDoor
