/- The walks of package sha's waiting, soFar, putCount, sumBytes. -/
import Derived.Test.YtdgpphihjeffcaaDoorShaMix
import Derived.Test.YtdgpphihjeffcaaDoorShaMath2
namespace Go.Proofs.YtdgpphihjeffcaaDoor
open Go Go.RowKit

theorem z24 : (Tryd.prog.info? 35).map (·.zero) = some (some (.agg (ints .u8 (List.replicate 32 0)).toArray)) := by kernel_rfl
theorem s24 : (Tryd.prog.info? 35).map (·.size) = some 32 := by kernel_rfl
theorem z35 : (Tryd.prog.info? 80).map (·.zero) = some (some (.agg (ints .u8 (List.replicate 64 0)).toArray)) := by kernel_rfl

theorem HC_size (sum blk : List Int) (n : Nat) (hs : sum.length = 8) (hb : blk.length = 64) : (HC sum blk n)[72]? = some (.int .u64 (n : Int)) := by
  simp [HC, List.getElem?_append, hs, hb]
theorem HC_sum (sum blk : List Int) (n : Nat) : ∀ j v, (ints .u32 sum)[j]? = some v → (HC sum blk n)[0 + j]? = some v := by
  intro j v h
  have hj := (List.getElem?_eq_some_iff.1 h).1
  rw [HC, Nat.zero_add, List.getElem?_append_left hj]; exact h
theorem HC_blk (sum blk : List Int) (n : Nat) (hs : sum.length = 8) : ∀ j v, (ints .u8 blk)[j]? = some v → (HC sum blk n)[8 + j]? = some v := by
  intro j v h
  have hj := (List.getElem?_eq_some_iff.1 h).1
  rw [HC, List.getElem?_append_right (by simp [hs]), List.getElem?_append_left (by simp [hs]; simpa using hj)]
  simpa [hs] using h
theorem length_HC (sum blk : List Int) (n : Nat) : (HC sum blk n).length = sum.length + blk.length + 1 := by simp [HC]; omega

theorem waiting_any (g : Nat) (sum blk : List Int) (n : Nat) (w : World) (hs : sum.length = 8) (hb : blk.length = 64) (hn : n < 2305843009213693952) (hg : Blk w g 82 (HC sum blk n)) :
    Calls Tryd.prog 53 #[.pointer (some ⟨g, 0, none⟩)] w fun e w' => e = .returned (.int .i64 ((n % 64 : Nat) : Int)) ∧ w = w' := by
  have hc := (hg.cell 72).trans (HC_size sum blk n hs hb)
  have HS := Lib.hid hs
  have HB := Lib.hid hb
  clear hs hb
  go_enter Tryd.func53, Tryd.ntmps53
  go_wp2
  go_ret
  exact ⟨rfl, rfl⟩

theorem soFar_any (g : Nat) (sum blk : List Int) (n : Nat) (w : World) (hs : sum.length = 8) (hb : blk.length = 64) (hn : n < 2305843009213693952) (hg : Blk w g 82 (HC sum blk n))
    (hst : Blk w 2 79 (ints .u32 startL)) :
    Calls Tryd.prog 55 #[.pointer (some ⟨g, 0, none⟩)] w fun e w' => e = .returned (.agg (ints .u32 (if n < 64 then startL else sum)).toArray) ∧ Below w.heap.size w w' := by
  have hlt := hg.lt
  have hlt1 := hst.lt
  have hc0 := HC_size sum blk n hs hb
  have HC0 := Lib.hid hc0
  have HS := Lib.hid hs
  have HB := Lib.hid hb
  clear hs hb hc0
  by_cases h : n < 64
  · go_enter Tryd.func55, Tryd.ntmps55
    go_wp2_with (first
      | (refine wpList_alloc_blk rfl (some 2) rfl _ rfl _ z34 ?_; intro g2 w2 hg2 hb2 hgr; have hB := (Below.refl _ w).grown hgr (Nat.le_refl _) (by simp); replace hg := hg.grownN hgr; replace hst := hst.grownN hgr; clear hgr)
      | (refine wpList_load_cell rfl (some 6) rfl _ (.tmp 5) rfl g 72 rfl _ _ hg (.int .u64 (n : Int)) HC0.out .u64 Tryd.underlying72 ?_)
      | (refine wpList_load_blk rfl (some 8) rfl _ (.global 2) rfl _ 0 rfl _ _ hst (ints .u32 startL) (by simp) _ Tryd.underlying79 rfl (by rw [s34]; rfl) ?_)
      | (refine wpList_store_blk rfl none rfl _ (.tmp 2) (.tmp 8) rfl g2 0 (ints .u32 startL) rfl rfl _ _ hb2 (by decide) (by rw [s34]; rfl) (one_ints _ _) ?_; intro w11 hb11 hgr11; replace hB := hB.grown hgr11 hB.size (by intro k hk; injection hk with hk; omega)))
    rw [splice_all _ _ (by decide)] at hb11
    exact bodyPost_ret (v := .agg (ints .u32 startL).toArray) (results_blk Tryd.results55 _ _ g2 _ _ _ rfl hb11 Tryd.underlying79 rfl (by rw [s34]; rfl)) rfl ⟨rfl, hB⟩
  · go_enter Tryd.func55, Tryd.ntmps55
    go_wp2_with (first
      | (refine wpList_alloc_blk rfl (some 2) rfl _ rfl _ z34 ?_; intro g2 w2 hg2 hb2 hgr; have hB := (Below.refl _ w).grown hgr (Nat.le_refl _) (by simp); replace hg := hg.grownN hgr; replace hst := hst.grownN hgr; clear hgr)
      | (refine wpList_load_cell rfl (some 6) rfl _ (.tmp 5) rfl g 72 rfl _ _ hg (.int .u64 (n : Int)) HC0.out .u64 Tryd.underlying72 ?_)
      | (refine wpList_load_blk rfl (some 12) rfl _ (.tmp 11) rfl _ 0 rfl _ _ hg (ints .u32 sum) (HC_sum _ _ _) _ Tryd.underlying79 rfl (by rw [s34, length_ints, HS.out]) ?_)
      | (refine wpList_store_blk rfl none rfl _ (.tmp 2) (.tmp 12) rfl g2 0 (ints .u32 sum) rfl rfl _ _ hb2 (by simp [HS.out]) (by rw [s34, length_ints, HS.out]) (one_ints _ _) ?_; intro w11 hb11 hgr11; replace hB := hB.grown hgr11 hB.size (by intro k hk; injection hk with hk; omega)))
    rw [splice_all _ _ (by simp [HS.out])] at hb11
    exact bodyPost_ret (v := .agg (ints .u32 sum).toArray) (results_blk Tryd.results55 _ _ g2 _ _ _ rfl hb11 Tryd.underlying79 rfl (by rw [s34, length_ints, HS.out])) rfl ⟨rfl, hB⟩

theorem shr8_bd (m : Int) (h0 : 0 ≤ m) (h1 : m < 18446744073709551616) : ∀ k, 0 ≤ shr8 m k ∧ shr8 m k < 18446744073709551616
  | 0 => ⟨h0, h1⟩
  | k + 1 => by have := shr8_bd m h0 h1 k; unfold shr8; omega

theorem putCount_any (g : Nat) (L : List Int) (m : Int) (w : World) (hL : L.length = 64) (hm0 : 0 ≤ m) (hm1 : m < 18446744073709551616) (hg : Blk w g 80 (ints .u8 L)) :
    Calls Tryd.prog 56 #[.slice (some ⟨g, 56, none⟩) 8 8, .int .u64 m] w fun e w' => e = .returned (.tuple #[]) ∧ Blk w' g 80 (ints .u8 (putC L m 8)) ∧ w.grownBy w' (some g) := by
  have HL := Lib.hid hL
  have HM := Lib.hid (shr8_bd m hm0 hm1)
  clear hL
  go_enter Tryd.func56, Tryd.ntmps56
  go_wp2
  go_loopw [1, 4] (fun c i wr => ∃ k : Nat, k ≤ 8 ∧ c = .int .u64 (shr8 m k) ∧ i = .int .i64 (7 - (k : Int)) ∧ Blk wr g 80 (ints .u8 (putC L m k)) ∧ w.grownBy wr (some g)) (fun _ i _ => (intOf i + 1).toNat)
  case atStart => exact ⟨0, by omega, rfl, rfl, hg, grownBy_refl _ _⟩
  case round =>
    clear hg
    obtain ⟨k, hk, rfl, rfl, hbr, hgr⟩ := hrel
    by_cases hlt : k < 8
    · obtain ⟨hx0, hx1⟩ := HM.out k
      have HX : Hid (shr8 m (k + 1) = shr8 m k / 256) := rfl
      have HS : Hid ((ints .u8 (putC L m k)).set (56 + (7 - k)) (.int .u8 (shr8 m k % 256)) = ints .u8 (putC L m (k + 1))) := by rw [set_ints]; exact rfl
      obtain ⟨x, hx⟩ : ∃ x, x = shr8 m k := ⟨_, rfl⟩
      rw [← hx] at hx0 hx1 HX HS ⊢
      clear hx
      go_wp2_with (first
        | (refine wpList_store_cell rfl none rfl _ (.tmp 16) (.tmp 15) rfl g (56 + (7 - k)) (.int .u8 (x % 256)) rfl rfl rfl _ _ hbr (by rw [length_ints, length_putC, HL.out]; omega) s5 ?_; intro w4 hb4 hgr4; replace hgr := hgr.trans hgr4))
      go_roundw
      case rel => rw [HS.out] at hb4; exact ⟨k + 1, by omega, by rw [HX.out], by (congr 1; omega), hb4, hgr⟩
      case measure => simp [intOf]; omega
    · have HK := Lib.hid (show k = 8 by omega)
      go_wp2_with fail
      go_end0
      rw [HK.out] at hbr
      exact ⟨rfl, hbr, hgr⟩

theorem sumBytes_any (s : List Int) (w : World) (hs : s.length = 8) (hsd : ∀ i, 0 ≤ s.getD i 0 ∧ s.getD i 0 < 4294967296) :
    Calls Tryd.prog 57 #[.agg (ints .u32 s).toArray] w fun e w' => e = .returned (.agg (ints .u8 (sbL s 8)).toArray) ∧ Below w.heap.size w w' := by
  have HS := Lib.hid hs
  have HSD := Lib.hid hsd
  clear hs hsd
  go_enter Tryd.func57, Tryd.ntmps57
  go_wp2_with (first
    | (refine wpList_box_blk rfl (some 1) rfl _ (.tmp 0) rfl (ints .u32 s) rfl ?_; intro g1 w1 hg1 hb1 hgr; have hB := (Below.refl _ w).grown hgr (Nat.le_refl _) (by simp); clear hgr)
    | (refine wpList_alloc_blk rfl (some 2) rfl _ rfl _ z24 ?_; intro g2 w2 hg2 hb2 hgr; have h2B : w.heap.size ≤ g2 := Nat.le_trans hB.size hg2; replace hB := hB.grown hgr hB.size (by simp); replace hb1 := hb1.grownN hgr; clear hgr)
    | (refine wpList_alloc_blk rfl (some 3) rfl _ rfl _ z24 ?_; intro g3 w3 hg3 hb3 hgr; have h23 : g2 < g3 := Nat.lt_of_lt_of_le hb2.lt hg3; have h3B : w.heap.size ≤ g3 := Nat.le_trans hB.size hg3; replace hB := hB.grown hgr hB.size (by simp); replace hb1 := hb1.grownN hgr; replace hb2 := hb2.grownN hgr; clear hgr)
    | (refine wpList_load_blk rfl (some 6) rfl _ (.tmp 1) rfl _ 0 rfl _ _ hb1 (ints .u32 s) (by simp) _ Tryd.underlying79 rfl (by rw [s34, length_ints, HS.out]) ?_))
  go_loopw [7] (fun i wr => ∃ k : Nat, k ≤ 8 ∧ i = .int .i64 k ∧ Blk wr g3 35 (ints .u8 (sbL s k)) ∧ w3.grownBy wr (some g3)) (fun i _ => 8 - (intOf i).toNat)
  case atStart => exact ⟨0, by omega, rfl, hb3, grownBy_refl _ _⟩
  case round =>
    obtain ⟨k, hk, rfl, hbr, hgr⟩ := hrel
    by_cases hlt : k < 8
    · have gx := get_ints .u32 s k (by rw [HS.out]; exact hlt)
      obtain ⟨hx0, hx1⟩ := HSD.out k
      have HL : Hid ((ints .u8 (sbL s k)).length = 32) := Lib.hid (by simp)
      have HSET : Hid (((((ints .u8 (sbL s k)).set (4 * k) (.int .u8 (s.getD k 0 / 16777216))).set (4 * k + 1) (.int .u8 (s.getD k 0 / 65536 % 256))).set (4 * k + 2) (.int .u8 (s.getD k 0 / 256 % 256))).set (4 * k + 3) (.int .u8 (s.getD k 0 % 256)) = ints .u8 (sbL s (k + 1))) := by
        rw [set_ints, set_ints, set_ints, set_ints]; exact rfl
      obtain ⟨x, hx⟩ : ∃ x, x = s.getD k 0 := ⟨_, rfl⟩
      rw [← hx] at gx hx0 hx1 HSET
      obtain ⟨C, hC⟩ : ∃ C, C = ints .u8 (sbL s k) := ⟨_, rfl⟩
      rw [← hC] at hbr HL HSET
      have GX := Lib.hid gx
      clear hx gx hC
      go_wp2_with (first
        | (refine wpList_index_arr rfl (some 10) rfl _ (.tmp 6) (.tmp 7) rfl (ints .u32 s) rfl .i64 k rfl 8 52 Tryd.underlying79 hlt .u32 Tryd.underlying52 s33 (.int .u32 x) GX.out ?_)
        | (refine wpList_store_cell rfl none rfl _ (.tmp 16) (.tmp 15) rfl g3 (4 * k) (.int .u8 (x / 16777216)) rfl rfl rfl _ _ hbr (by rw [HL.out]; omega) s5 ?_; intro w4 hb4 hgr4; replace hgr := hgr.trans hgr4; clear hbr hgr4)
        | (refine wpList_store_cell rfl none rfl _ (.tmp 23) (.tmp 22) rfl g3 (4 * k + 1) (.int .u8 (x / 65536 % 256)) rfl rfl rfl _ _ hb4 (by rw [List.length_set, HL.out]; omega) s5 ?_; intro w5 hb5 hgr4; replace hgr := hgr.trans hgr4; clear hb4 hgr4)
        | (refine wpList_store_cell rfl none rfl _ (.tmp 30) (.tmp 29) rfl g3 (4 * k + 2) (.int .u8 (x / 256 % 256)) rfl rfl rfl _ _ hb5 (by rw [List.length_set, List.length_set, HL.out]; omega) s5 ?_; intro w6 hb6 hgr4; replace hgr := hgr.trans hgr4; clear hb5 hgr4)
        | (refine wpList_store_cell rfl none rfl _ (.tmp 36) (.tmp 35) rfl g3 (4 * k + 3) (.int .u8 (x % 256)) rfl rfl rfl _ _ hb6 (by rw [List.length_set, List.length_set, List.length_set, HL.out]; omega) s5 ?_; intro w7 hb7 hgr4; replace hgr := hgr.trans hgr4; clear hb6 hgr4))
      go_roundw
      case rel => rw [HSET.out] at hb7; exact ⟨k + 1, by omega, by go_num, hb7, hgr⟩
      case measure => simp [intOf]; omega
    · have HK := Lib.hid (show k = 8 by omega)
      replace hbr : Blk wr g3 35 (ints .u8 (sbL s 8)) := by rw [← HK.out]; exact hbr
      have hb2w := hb2.grown hgr (by intro h; injection h with h; omega)
      replace hB := hB.grown hgr hB.size (by intro k hk; injection hk with hk; omega)
      obtain ⟨M, hM⟩ : ∃ M, M = sbL s 8 := ⟨_, rfl⟩
      have HLM : Hid (M.length = 32) := Lib.hid (by rw [hM, length_sbL])
      rw [← hM] at hbr
      have HM := Lib.hid hM
      clear hM hb1 hb2 hb3 hgr
      go_wp2_with (first
        | (refine wpList_load_blk rfl (some 38) rfl _ (.tmp 3) rfl _ 0 rfl _ _ hbr (ints .u8 M) (by simp) _ Tryd.underlying35 rfl (by rw [s24, length_ints, HLM.out]) ?_)
        | (refine wpList_store_blk rfl none rfl _ (.tmp 2) (.tmp 38) rfl g2 0 (ints .u8 M) rfl rfl _ _ hb2w (by simp [HLM.out]) (by rw [s24, length_ints, HLM.out]) (one_ints _ _) ?_; intro w11 hb11 hgr11; replace hB := hB.grown hgr11 hB.size (by intro k hk; injection hk with hk; omega)))
      rw [splice_all _ _ (by simp [HLM.out])] at hb11
      exact bodyPost_ret (v := .agg (ints .u8 M).toArray) (results_blk Tryd.results57 _ _ g2 _ _ _ rfl hb11 Tryd.underlying35 rfl (by rw [s24, length_ints, HLM.out])) rfl ⟨by rw [HM.out], hB⟩
end Go.Proofs.YtdgpphihjeffcaaDoor
