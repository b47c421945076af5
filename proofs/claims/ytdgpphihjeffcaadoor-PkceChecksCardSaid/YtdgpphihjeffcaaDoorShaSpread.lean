/- The walk of package sha's 'spread'. -/
import Derived.Test.YtdgpphihjeffcaaDoorShaWords
import Derived.Deep.QuietTactic
import Derived.BigQuiet
import Derived.StillTailTactics
import Derived.Deep.LoopGhost
namespace Go.Proofs.YtdgpphihjeffcaaDoor
open Go Go.RowKit

theorem z57 : (Tryd.prog.info? 115).map (·.zero) = some (some (.agg (ints .u32 (List.replicate 64 0)).toArray)) := by kernel_rfl
theorem s57 : (Tryd.prog.info? 115).map (·.size) = some 64 := by kernel_rfl
theorem s35 : (Tryd.prog.info? 80).map (·.size) = some 64 := by kernel_rfl
theorem s33 : (Tryd.prog.info? 52).map (·.size) = some 1 := by kernel_rfl
theorem s5 : (Tryd.prog.info? 5).map (·.size) = some 1 := by kernel_rfl

set_option maxRecDepth 100000 in
theorem spread_any (b : List Int) (w : World) (hb : b.length = 64) (hbd : ∀ i, 0 ≤ b.getD i 0 ∧ b.getD i 0 ≤ 255) :
    Calls Tryd.prog 63 #[.agg (ints .u8 b).toArray] w fun e w' => e = .returned (.agg (ints .u32 (sched b 48)).toArray) ∧ Below w.heap.size w w' := by
  have HB := Lib.hid hb
  have HBD := Lib.hid hbd
  clear hb hbd
  go_enter Tryd.func63, Tryd.ntmps63
  go_wp2_with (first
    | (refine wpList_box_blk rfl (some 1) rfl _ (.tmp 0) rfl (ints .u8 b) rfl ?_; intro g1 w1 hg1 hb1 hgr; have hB1 := (Below.refl _ w).grown hgr (Nat.le_refl _) (by simp); clear hgr)
    | (refine wpList_alloc_blk rfl (some 2) rfl _ rfl _ z57 ?_; intro g2 w2 hg2 hb2 hgr; have hB2 := hB1.grown hgr hB1.size (by simp); replace hb1 := hb1.grownN hgr; clear hgr)
    | (refine wpList_alloc_blk rfl (some 3) rfl _ rfl _ z57 ?_; intro g3 w3 hg3 hb3 hgr; have h23 : g2 < g3 := Nat.lt_of_lt_of_le hb2.lt hg3; have h2B : w.heap.size ≤ g2 := Nat.le_trans hB1.size hg2; have h3B : w.heap.size ≤ g3 := Nat.le_trans hB2.size hg3; have hB3 := hB2.grown hgr hB2.size (by simp); replace hb1 := hb1.grownN hgr; replace hb2 := hb2.grownN hgr; clear hgr)
    | (refine wpList_load_blk rfl (some 11) rfl _ (.tmp 1) rfl _ 0 rfl _ _ hb1 (ints .u8 b) (by simp) _ Tryd.underlying80 rfl (by simp [s35, HB.out]) ?_))
  go_loopw [12] (fun i wr => ∃ k : Nat, k ≤ 64 ∧ i = .int .i64 k ∧ Blk wr g3 115 (ints .u32 (accs b k)) ∧ w3.grownBy wr (some g3)) (fun i _ => 64 - (intOf i).toNat)
  case atStart => exact ⟨0, by omega, rfl, hb3, grownBy_refl _ _⟩
  case round =>
    obtain ⟨k, hk, rfl, hbr, hgr⟩ := hrel
    by_cases hlt : k < 64
    · obtain ⟨hd0, hd1⟩ := HBD.out k
      obtain ⟨ha0, ha1⟩ := accs_bd b k (k / 4)
      have hq : k / 4 < 64 := by omega
      have gx := get_ints .u8 b k (by rw [HB.out]; exact hlt)
      have gy := get_ints .u32 (accs b k) (k / 4) (by rw [length_accs]; exact hq)
      obtain ⟨x, hx⟩ : ∃ x, x = b.getD k 0 := ⟨_, rfl⟩
      obtain ⟨y, hy⟩ : ∃ y, y = (accs b k).getD (k / 4) 0 := ⟨_, rfl⟩
      rw [← hx] at hd0 hd1 gx
      rw [← hy] at ha0 ha1 gy
      have HS : Hid ((ints .u32 (accs b k)).set (k / 4) (.int .u32 (bits .or .u32 (y * 256 % 4294967296) x)) = ints .u32 (accs b (k + 1))) := by
        rw [set_ints, accs, hx, hy]; exact rfl
      have GX := Lib.hid gx
      have GY := Lib.hid gy
      clear hx hy gx gy
      go_wp2_with (first
        | (refine wpList_index_arr rfl (some 15) rfl _ (.tmp 11) (.tmp 12) rfl (ints .u8 b) rfl .i64 k rfl 64 5 Tryd.underlying80 hlt .u8 Tryd.underlying5 s5 (.int .u8 x) GX.out ?_)
        | (refine wpList_load_cell rfl (some 21) rfl _ (.tmp 20) rfl g3 (k / 4) rfl _ _ hbr (.int .u32 y) GY.out .u32 Tryd.underlying52 ?_)
        | (refine wpList_store_cell rfl none rfl _ (.tmp 26) (.tmp 25) rfl g3 (k / 4) (.int .u32 (bits .or .u32 (y * 256 % 4294967296) x)) rfl rfl rfl _ _ hbr (by rw [length_ints, length_accs]; exact hq) s33 ?_; intro w4 hb4 hgr4; replace hgr := hgr.trans hgr4))
      go_roundw
      case rel => rw [HS.out] at hb4; exact ⟨k + 1, by omega, by go_num, hb4, hgr⟩
      case measure => simp [intOf]; omega
    · obtain ⟨k0, rfl⟩ : ∃ k0, k0 = k := ⟨_, rfl⟩
      have hk0 := Lib.hid (show k0 = 64 by omega)
      replace hbr : Blk wr g3 115 (ints .u32 (accs b 64)) := by rw [← hk0.out]; exact hbr
      have hB4 := hB3.grown hgr hB3.size (by intro k hk; injection hk with hk; omega)
      have hb2' := hb2.grown hgr (by intro h; injection h with h; omega)
      go_wp2_with fail
      clear hb1 hb2 hb3 hgr hB1 hB2 hB3
      obtain ⟨w3, rfl⟩ : ∃ wo : World, wo = wr := ⟨_, rfl⟩
      go_loopw [6] (fun i wr => ∃ k : Nat, 16 ≤ k ∧ k ≤ 64 ∧ i = .int .i64 k ∧ Blk wr g3 115 (ints .u32 (sched b (k - 16))) ∧ w3.grownBy wr (some g3)) (fun i _ => 64 - (intOf i).toNat)
      case atStart => exact ⟨16, by omega, by omega, rfl, hbr, grownBy_refl _ _⟩
      case round =>
        clear hbr
        obtain ⟨k, hk16, hk, rfl, hbr, hgr⟩ := hrel
        by_cases hlt : k < 64
        · have hL : (sched b (k - 16)).length = 64 := length_sched _ _
          have gp := (hbr.cell (k - 2)).trans (get_ints .u32 (sched b (k - 16)) (k - 2) (by omega))
          have gq := (hbr.cell (k - 15)).trans (get_ints .u32 (sched b (k - 16)) (k - 15) (by omega))
          have gr := (hbr.cell (k - 7)).trans (get_ints .u32 (sched b (k - 16)) (k - 7) (by omega))
          have gs := (hbr.cell (k - 16)).trans (get_ints .u32 (sched b (k - 16)) (k - 16) (by omega))
          obtain ⟨hp0, hp1⟩ := sched_bd b (k - 16) (k - 2)
          obtain ⟨hq0, hq1⟩ := sched_bd b (k - 16) (k - 15)
          obtain ⟨hr0, hr1⟩ := sched_bd b (k - 16) (k - 7)
          obtain ⟨hs0, hs1⟩ := sched_bd b (k - 16) (k - 16)
          have hnx : nextw (sched b (k - 16)) k = (sig1 ((sched b (k - 16)).getD (k - 2) 0) + (sched b (k - 16)).getD (k - 7) 0 + sig0 ((sched b (k - 16)).getD (k - 15) 0) + (sched b (k - 16)).getD (k - 16) 0) % 4294967296 := rfl
          have HS : Hid ((ints .u32 (sched b (k - 16))).set k (.int .u32 (nextw (sched b (k - 16)) k)) = ints .u32 (sched b (k + 1 - 16))) := by
            rw [set_ints, show k + 1 - 16 = (k - 16) + 1 by omega, sched, show 16 + (k - 16) = k by omega]; exact rfl
          rw [hnx] at HS
          obtain ⟨p, hp⟩ : ∃ x, x = (sched b (k - 16)).getD (k - 2) 0 := ⟨_, rfl⟩
          obtain ⟨q, hq⟩ : ∃ x, x = (sched b (k - 16)).getD (k - 15) 0 := ⟨_, rfl⟩
          obtain ⟨r, hr⟩ : ∃ x, x = (sched b (k - 16)).getD (k - 7) 0 := ⟨_, rfl⟩
          obtain ⟨s, hs⟩ : ∃ x, x = (sched b (k - 16)).getD (k - 16) 0 := ⟨_, rfl⟩
          rw [← hp] at hp0 hp1 gp HS
          rw [← hq] at hq0 hq1 gq HS
          rw [← hr] at hr0 hr1 gr HS
          rw [← hs] at hs0 hs1 gs HS
          clear hp hq hr hs hnx hL
          have cp17 : ∀ w, Calls Tryd.prog 65 #[.int .u32 p, .int .i64 17] w (fun e w' => e = .returned (.int .u32 (rotr p 17)) ∧ w = w') := fun w => turned_any p 17 w hp0 hp1 (by omega) (by omega)
          have cp19 : ∀ w, Calls Tryd.prog 65 #[.int .u32 p, .int .i64 19] w (fun e w' => e = .returned (.int .u32 (rotr p 19)) ∧ w = w') := fun w => turned_any p 19 w hp0 hp1 (by omega) (by omega)
          have cq7 : ∀ w, Calls Tryd.prog 65 #[.int .u32 q, .int .i64 7] w (fun e w' => e = .returned (.int .u32 (rotr q 7)) ∧ w = w') := fun w => turned_any q 7 w hq0 hq1 (by omega) (by omega)
          have cq18 : ∀ w, Calls Tryd.prog 65 #[.int .u32 q, .int .i64 18] w (fun e w' => e = .returned (.int .u32 (rotr q 18)) ∧ w = w') := fun w => turned_any q 18 w hq0 hq1 (by omega) (by omega)
          go_wp2_with fail
          go_quiet (fail)
          go_wp2_with (go_at_call 65; first | ((with_reducible refine (cp17 _).mono ?_); rintro e w' ⟨rfl, rfl⟩) | ((with_reducible refine (cp19 _).mono ?_); rintro e w' ⟨rfl, rfl⟩) | ((with_reducible refine (cq7 _).mono ?_); rintro e w' ⟨rfl, rfl⟩) | ((with_reducible refine (cq18 _).mono ?_); rintro e w' ⟨rfl, rfl⟩))
          generalize hwq : wr.drewN nq = wq
          have hbq : Blk wq g3 115 (ints .u32 (sched b (k - 16))) := by rw [← hwq]; exact hbr
          have hgq : w3.grownBy wq (some g3) := by rw [← hwq]; exact grownBy_drewN hgr _
          have gr' : wq.cell? ⟨g3, k - 7, none⟩ = some (.int .u32 r) := by rw [← hwq]; exact gr
          have gs' : wq.cell? ⟨g3, k - 16, none⟩ = some (.int .u32 s) := by rw [← hwq]; exact gs
          clear hwq gp gq gr gs hbr hgr cp17 cp19 cq7 cq18
          have gk := (hbq.cell k).trans (get_ints .u32 (sched b (k - 16)) k (by rw [length_sched]; exact hlt))
          obtain ⟨z, hz⟩ : ∃ x, x = (sched b (k - 16)).getD k 0 := ⟨_, rfl⟩
          rw [← hz] at gk
          have gf := hbq.frozen k
          clear hz
          go_region
          have hb9 := (hbq.setCell k (.int .u32 ((sig1 p + r + sig0 q + s) % 4294967296))).drew
          have hg9 := grownBy_drew (hgq.trans (grownBy_setCell wq g3 k (.int .u32 ((sig1 p + r + sig0 q + s) % 4294967296))))
          rw [HS.out] at hb9
          have HR := Lib.hid (And.intro hb9 hg9)
          clear hb9 hg9 hbq hgq gr' gs' gk gf HS hp0 hp1 hq0 hq1 hr0 hr1 hs0 hs1
          go_wp2_with fail
          go_roundw
          case rel => exact ⟨k + 1, by omega, by omega, by go_num, HR.out.1, HR.out.2⟩
          case measure => simp [intOf]; omega
        · obtain rfl : k = 64 := by omega
          have hB5 := hB4.grown hgr hB4.size (by intro k hk; injection hk with hk; omega)
          have hb2w := hb2'.grown hgr (by intro h; injection h with h; omega)
          clear hgr hB4 hb2'
          go_wp2_with (first
            | (refine wpList_load_blk rfl (some 71) rfl _ (.tmp 3) rfl _ 0 rfl _ _ hbr (ints .u32 (sched b 48)) (by simp) _ Tryd.underlying115 rfl (by rw [s57, length_ints, length_sched]) ?_)
            | (refine wpList_store_blk rfl none rfl _ (.tmp 2) (.tmp 71) rfl g2 0 (ints .u32 (sched b 48)) rfl rfl _ _ hb2w (by simp) (by rw [s57, length_ints, length_sched]) (one_ints _ _) ?_; intro w9 hb9 hgr9; replace hB5 := hB5.grown hgr9 hB5.size (by intro k hk; injection hk with hk; omega)))
          rw [splice_all _ _ (by simp)] at hb9
          exact bodyPost_ret (v := .agg (ints .u32 (sched b 48)).toArray) (results_blk Tryd.results63 _ _ g2 _ _ _ rfl hb9 Tryd.underlying115 rfl (by rw [s57, length_ints, length_sched])) rfl ⟨rfl, hB5⟩
end Go.Proofs.YtdgpphihjeffcaaDoor
