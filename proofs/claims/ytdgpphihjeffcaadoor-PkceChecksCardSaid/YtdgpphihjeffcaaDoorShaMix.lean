/- The walk of package sha's 'mix'. -/
import Derived.Test.YtdgpphihjeffcaaDoorShaSpread
import Derived.Maps.RangeWalk
namespace Go.Proofs.YtdgpphihjeffcaaDoor
open Go Go.RowKit

theorem z34 : (Tryd.prog.info? 79).map (·.zero) = some (some (.agg (ints .u32 (List.replicate 8 0)).toArray)) := by kernel_rfl
theorem s34 : (Tryd.prog.info? 79).map (·.size) = some 8 := by kernel_rfl

def Word (x : Int) : Prop := 0 ≤ x ∧ x < 4294967296
/-- What holds at the head of the rounds' loop. -/
def MixRel (W s : List Int) (w8 : World) (va vb vc vd ve vf vg vh i : Value) (wr : World) : Prop :=
  ∃ (k n : Nat) (a b c d e f g h : Int), k ≤ 64 ∧ rnds W s k = [a, b, c, d, e, f, g, h] ∧ (Word a ∧ Word b ∧ Word c ∧ Word d ∧ Word e ∧ Word f ∧ Word g ∧ Word h) ∧
    va = .int .u32 a ∧ vb = .int .u32 b ∧ vc = .int .u32 c ∧ vd = .int .u32 d ∧ ve = .int .u32 e ∧ vf = .int .u32 f ∧ vg = .int .u32 g ∧ vh = .int .u32 h ∧ i = .int .i64 k ∧ wr = w8.drewN n
theorem roots_bd : ∀ i, 0 ≤ rootsL.getD i 0 ∧ rootsL.getD i 0 < 4294967296 := by
  intro i
  by_cases h : i < 64
  · have : ∀ j : Fin 64, 0 ≤ rootsL.getD j.val 0 ∧ rootsL.getD j.val 0 < 4294967296 := by decide +kernel
    exact this ⟨i, h⟩
  · rw [List.getD_eq_getElem?_getD, List.getElem?_eq_none (by rw [length_roots]; omega)]; decide

set_option maxRecDepth 100000 in
set_option maxHeartbeats 400000 in
theorem mix_any (s b : List Int) (w : World) (hs : s.length = 8) (hsd : ∀ i, 0 ≤ s.getD i 0 ∧ s.getD i 0 < 4294967296) (hb : b.length = 64) (hbd : ∀ i, 0 ≤ b.getD i 0 ∧ b.getD i 0 ≤ 255)
    (hroots : Blk w 1 115 (ints .u32 rootsL)) :
    Calls Tryd.prog 54 #[.agg (ints .u32 s).toArray, .agg (ints .u8 b).toArray] w fun e w' => e = .returned (.agg (ints .u32 (mixL s b)).toArray) ∧ Below w.heap.size w w' := by
  have HS := Lib.hid hs
  have HSD := Lib.hid hsd
  have HB := Lib.hid hb
  obtain ⟨W, HW, HWL, HWD, cspread⟩ : ∃ W, Hid (W = sched b 48) ∧ Hid (W.length = 64) ∧ Hid (∀ i, 0 ≤ W.getD i 0 ∧ W.getD i 0 < 4294967296) ∧
      ∀ w, Calls Tryd.prog 63 #[.agg (ints .u8 b).toArray] w fun e w' => e = .returned (.agg (ints .u32 W).toArray) ∧ Below w.heap.size w w' :=
    ⟨_, Lib.hid rfl, Lib.hid (length_sched b 48), Lib.hid (sched_bd b 48), fun w => spread_any b w hb hbd⟩
  have hr0 := hroots.lt
  have HSD' := Lib.hid (addU_bd s (rnds W s 64) hsd)
  clear hs hsd hb hbd
  go_enter Tryd.func54, Tryd.ntmps54
  go_wp2_with (first
    | (refine wpList_box_blk rfl (some 2) rfl _ (.tmp 0) rfl (ints .u32 s) rfl ?_; intro g2 w2 hg2 hb2 hgr; have hB := (Below.refl _ w).grown hgr (Nat.le_refl _) (by simp); clear hgr)
    | (refine wpList_box_blk rfl (some 3) rfl _ (.tmp 1) rfl (ints .u8 b) rfl ?_; intro g3 w3 hg3 hb3 hgr; have h23 : g2 < g3 := Nat.lt_of_lt_of_le hb2.lt hg3; replace hB := hB.grown hgr hB.size (by simp); replace hb2 := hb2.grownN hgr; clear hgr)
    | (refine wpList_alloc_blk rfl (some 4) rfl _ rfl _ z34 ?_; intro g4 w4 hg4 hb4 hgr; have h34 : g3 < g4 := Nat.lt_of_lt_of_le hb3.lt hg4; have h2B : w.heap.size ≤ g2 := hg2; have h4B : w.heap.size ≤ g4 := Nat.le_trans hB.size hg4; replace hB := hB.grown hgr hB.size (by simp); replace hb2 := hb2.grownN hgr; replace hb3 := hb3.grownN hgr; clear hgr)
    | (refine wpList_load_blk rfl (some 20) rfl _ (.tmp 3) rfl _ 0 rfl _ _ hb3 (ints .u8 b) (by simp) _ Tryd.underlying80 rfl (by rw [s35, length_ints, HB.out]) ?_)
    | (go_at_call 63; refine (cspread _).mono ?_; rintro e w5 ⟨rfl, hbw⟩; replace hb2 := hb2.below hbw hb2.lt; replace hb3 := hb3.below hbw hb3.lt; have hg4' := hb4.lt; replace hb4 := hb4.below hbw hb4.lt; replace hB := hB.trans (hbw.mono hB.size); clear hbw)
    | (refine wpList_alloc_blk rfl (some 5) rfl _ rfl _ z57 ?_; intro g5 w6 hg5 hb5 hgr; have h45 : g4 < g5 := Nat.lt_of_lt_of_le hb4.lt hg5; have h5B : w.heap.size ≤ g5 := Nat.le_trans hB.size hg5; replace hB := hB.grown hgr hB.size (by simp); replace hb2 := hb2.grownN hgr; replace hb4 := hb4.grownN hgr; clear hgr)
    | (refine wpList_store_blk rfl none rfl _ (.tmp 5) (.tmp 21) rfl g5 0 (ints .u32 W) rfl rfl _ _ hb5 (by simp [HWL.out]) (by rw [s57, length_ints, HWL.out]) (one_ints _ _) ?_; intro w7 hb7 hgr7; rw [splice_all _ _ (by simp [HWL.out])] at hb7; replace hB := hB.grown hgr7 hB.size (by intro k hk; injection hk with hk; omega); replace hb2 := hb2.grown hgr7 (by intro h; injection h with h; omega); replace hb4 := hb4.grown hgr7 (by intro h; injection h with h; omega); clear hgr7))
  go_frame
  have hg0 := (hb2.cell 0).trans (get_ints .u32 s 0 (by rw [HS.out]; omega))
  have hg1 := (hb2.cell 1).trans (get_ints .u32 s 1 (by rw [HS.out]; omega))
  have hg2 := (hb2.cell 2).trans (get_ints .u32 s 2 (by rw [HS.out]; omega))
  have hg3 := (hb2.cell 3).trans (get_ints .u32 s 3 (by rw [HS.out]; omega))
  have hg4 := (hb2.cell 4).trans (get_ints .u32 s 4 (by rw [HS.out]; omega))
  have hg5 := (hb2.cell 5).trans (get_ints .u32 s 5 (by rw [HS.out]; omega))
  have hg6 := (hb2.cell 6).trans (get_ints .u32 s 6 (by rw [HS.out]; omega))
  have hg7 := (hb2.cell 7).trans (get_ints .u32 s 7 (by rw [HS.out]; omega))
  obtain ⟨s0, e0⟩ : ∃ x, x = s.getD 0 0 := ⟨_, rfl⟩
  obtain ⟨s1, e1⟩ : ∃ x, x = s.getD 1 0 := ⟨_, rfl⟩
  obtain ⟨s2, e2⟩ : ∃ x, x = s.getD 2 0 := ⟨_, rfl⟩
  obtain ⟨s3, e3⟩ : ∃ x, x = s.getD 3 0 := ⟨_, rfl⟩
  obtain ⟨s4, e4⟩ : ∃ x, x = s.getD 4 0 := ⟨_, rfl⟩
  obtain ⟨s5, e5⟩ : ∃ x, x = s.getD 5 0 := ⟨_, rfl⟩
  obtain ⟨s6, e6⟩ : ∃ x, x = s.getD 6 0 := ⟨_, rfl⟩
  obtain ⟨s7, e7⟩ : ∃ x, x = s.getD 7 0 := ⟨_, rfl⟩
  rw [← e0] at hg0; rw [← e1] at hg1; rw [← e2] at hg2; rw [← e3] at hg3; rw [← e4] at hg4; rw [← e5] at hg5; rw [← e6] at hg6; rw [← e7] at hg7
  have HE : Hid (s = [s0, s1, s2, s3, s4, s5, s6, s7]) := Lib.hid (by
    have hl := HS.out
    subst e0 e1 e2 e3 e4 e5 e6 e7
    match s, hl with
    | [x0, x1, x2, x3, x4, x5, x6, x7], _ => rfl)
  have b0 := HSD.out 0; have b1 := HSD.out 1; have b2 := HSD.out 2; have b3 := HSD.out 3; have b4 := HSD.out 4; have b5 := HSD.out 5; have b6 := HSD.out 6; have b7 := HSD.out 7
  rw [← e0] at b0; rw [← e1] at b1; rw [← e2] at b2; rw [← e3] at b3; rw [← e4] at b4; rw [← e5] at b5; rw [← e6] at b6; rw [← e7] at b7
  clear e0 e1 e2 e3 e4 e5 e6 e7
  go_quiet (fail)
  clear hg0 hg1 hg2 hg3 hg4 hg5 hg6 hg7
  have hbX : Blk (w7.drewN nq) g5 115 (ints .u32 W) := hb7
  go_wp2_with (refine wpList_load_blk rfl (some 38) rfl _ (.tmp 5) rfl _ 0 rfl _ _ hbX (ints .u32 W) (by simp) _ Tryd.underlying115 rfl (by rw [s57, length_ints, HWL.out]) ?_)
  replace hB := below_drewN hB nq
  have hroots8 : Blk (w7.drewN nq) 1 115 (ints .u32 rootsL) := hroots.below hB hr0
  replace hb2 := hb2.drewN nq
  replace hb4 := hb4.drewN nq
  clear hb7 hbX hb5 hb3 hroots
  generalize w7.drewN nq = w8 at *
  go_loopw [6, 7, 8, 9, 10, 11, 12, 13, 39] (fun va vb vc vd ve vf vg vh i wr => MixRel W s w8 va vb vc vd ve vf vg vh i wr) (fun _ _ _ _ _ _ _ _ i _ => 64 - (intOf i).toNat)
  case atStart => exact ⟨0, 0, s0, s1, s2, s3, s4, s5, s6, s7, by omega, HE.out, ⟨b0, b1, b2, b3, b4, b5, b6, b7⟩, rfl, rfl, rfl, rfl, rfl, rfl, rfl, rfl, rfl, rfl⟩
  case round =>
    obtain ⟨k, n, a, b', c, d, e, f, g, h, hk, hrk, ⟨⟨ha0, ha1⟩, ⟨hb0, hb1⟩, ⟨hc0, hc1⟩, ⟨hd0, hd1⟩, ⟨he0, he1⟩, ⟨hf0, hf1⟩, ⟨hg0, hg1⟩, ⟨hh0, hh1⟩⟩, rfl, rfl, rfl, rfl, rfl, rfl, rfl, rfl, rfl, rfl⟩ := hrel
    have HRK := Lib.hid hrk
    clear hrk
    by_cases hlt : k < 64
    · have gW := get_ints .u32 W k (by rw [HWL.out]; exact hlt)
      have gK : (w8.drewN n).cell? ⟨1, k, none⟩ = _ := (hroots8.cell k).trans (get_ints .u32 rootsL k (by rw [length_roots]; exact hlt))
      obtain ⟨hw0, hw1⟩ := HWD.out k
      obtain ⟨hk0, hk1⟩ := roots_bd k
      obtain ⟨wt, ewt⟩ : ∃ x, x = W.getD k 0 := ⟨_, rfl⟩
      obtain ⟨kt, ekt⟩ : ∃ x, x = rootsL.getD k 0 := ⟨_, rfl⟩
      rw [← ewt] at gW hw0 hw1
      rw [← ekt] at gK hk0 hk1
      have EWT := Lib.hid ewt
      have EKT := Lib.hid ekt
      have GW := Lib.hid gW
      clear ewt ekt gW
      have ce : ∀ w, Calls Tryd.prog 64 #[.int .u32 e, .int .i64 6, .int .i64 11, .int .i64 25] w (fun v w' => v = .returned (.int .u32 (turns3 e 6 11 25)) ∧ w = w') := fun w => turns_any e 6 11 25 w he0 he1 (by omega) (by omega) (by omega) (by omega) (by omega) (by omega)
      have ca : ∀ w, Calls Tryd.prog 64 #[.int .u32 a, .int .i64 2, .int .i64 13, .int .i64 22] w (fun v w' => v = .returned (.int .u32 (turns3 a 2 13 22)) ∧ w = w') := fun w => turns_any a 2 13 22 w ha0 ha1 (by omega) (by omega) (by omega) (by omega) (by omega) (by omega)
      go_wp2_with (first
        | (refine wpList_index_arr rfl (some 42) rfl _ (.tmp 38) (.tmp 39) rfl (ints .u32 W) rfl .i64 k rfl 64 52 Tryd.underlying115 hlt .u32 Tryd.underlying52 s33 (.int .u32 wt) GW.out ?_))
      have ce' := fun w => (ce w).mono fun _ _ (hh : _ ∧ _) => (⟨hh.1, hh.2.symm⟩ : _ ∧ _)
      obtain ⟨wr, hwr⟩ : ∃ x, x = w8.drewN n := ⟨_, rfl⟩
      rw [← hwr] at gK ⊢
      have HWR := Lib.hid hwr
      clear hwr
      go_quiet ((go_at_call 64; exact Calls.quiet_of_same (ce' _)))
      clear gK ce ce'
      go_wp2_with (go_at_call 64; refine (ca _).mono ?_; rintro e w' ⟨rfl, rfl⟩)
      refine ⟨⟨k + 1, n + nq, _, a, b', c, _, e, f, g, by omega, ?_, ⟨⟨by omega, by omega⟩, ⟨ha0, ha1⟩, ⟨hb0, hb1⟩, ⟨hc0, hc1⟩, ⟨by omega, by omega⟩, ⟨he0, he1⟩, ⟨hf0, hf1⟩, ⟨hg0, hg1⟩⟩, rfl, rfl, rfl, rfl, rfl, rfl, rfl, rfl, by go_num, ?_⟩, by simp [intOf]; omega⟩
      · show rnd (rnds W s k) (rootsL.getD k 0) (W.getD k 0) = _
        rw [HRK.out, ← EKT.out, ← EWT.out]; rfl
      · rw [HWR.out, World.drewN_drewN]
    · have HK := Lib.hid (show k = 64 by omega)
      have hbr : Blk (w8.drewN n) g2 79 (ints .u32 s) := hb2
      have hb4r : Blk (w8.drewN n) g4 79 (ints .u32 (List.replicate 8 0)) := hb4
      replace hB := below_drewN hB n
      clear hb2 hb4 hroots8
      generalize w8.drewN n = w9 at *
      have hdec : decide ((k : Int) < 64) = false := by simp; omega
      go_wp2_with fail
      have hbd0 : ∀ j i, 0 ≤ (addU s [a, b', c, d, e, f, g, h] j).getD i 0 ∧ (addU s [a, b', c, d, e, f, g, h] j).getD i 0 < 4294967296 := by
        have := HSD'.out; rw [← HK.out, HRK.out] at this; exact this
      have HBD0 := Lib.hid hbd0
      have hRb : ∀ i, 0 ≤ [a, b', c, d, e, f, g, h].getD i 0 ∧ [a, b', c, d, e, f, g, h].getD i 0 < 4294967296 := fun i =>
        match i with
        | 0 => ⟨ha0, ha1⟩ | 1 => ⟨hb0, hb1⟩ | 2 => ⟨hc0, hc1⟩ | 3 => ⟨hd0, hd1⟩ | 4 => ⟨he0, he1⟩ | 5 => ⟨hf0, hf1⟩ | 6 => ⟨hg0, hg1⟩ | 7 => ⟨hh0, hh1⟩
        | n + 8 => by simp
      have HRB := Lib.hid hRb
      clear hbd0 hRb HSD' hdec
      go_loopw [98] (fun i wr => ∃ j : Nat, j ≤ 8 ∧ i = .int .i64 j ∧ Blk wr g2 79 (ints .u32 (addU s [a, b', c, d, e, f, g, h] j)) ∧ w9.grownBy wr (some g2)) (fun i _ => 8 - (intOf i).toNat)
      case atStart => exact ⟨0, by omega, rfl, hbr, grownBy_refl _ _⟩
      case round =>
        obtain ⟨j, hj, rfl, hbj, hgr⟩ := hrel
        by_cases hlj : j < 8
        · have gx := get_ints .u32 (addU s [a, b', c, d, e, f, g, h] j) j (by rw [length_addU, HS.out]; exact hlj)
          have gy := get_ints .u32 [a, b', c, d, e, f, g, h] j hlj
          obtain ⟨hx0, hx1⟩ := HBD0.out j j
          obtain ⟨hy0, hy1⟩ := HRB.out j
          have HSET : Hid ((ints .u32 (addU s [a, b', c, d, e, f, g, h] j)).set j (.int .u32 (((addU s [a, b', c, d, e, f, g, h] j).getD j 0 + [a, b', c, d, e, f, g, h].getD j 0) % 4294967296)) = ints .u32 (addU s [a, b', c, d, e, f, g, h] (j + 1))) := by
            rw [set_ints]; exact rfl
          obtain ⟨x, hx⟩ : ∃ x, x = (addU s [a, b', c, d, e, f, g, h] j).getD j 0 := ⟨_, rfl⟩
          obtain ⟨y, hy⟩ : ∃ x, x = [a, b', c, d, e, f, g, h].getD j 0 := ⟨_, rfl⟩
          rw [← hx] at gx hx0 hx1 HSET
          rw [← hy] at gy hy0 hy1 HSET
          have GX := Lib.hid gx
          have GY := Lib.hid gy
          clear hx hy gx gy
          go_wp2_with (first
            | (refine wpList_index_arr rfl (some 101) rfl _ (.tmp 97) (.tmp 98) rfl (ints .u32 [a, b', c, d, e, f, g, h]) rfl .i64 j rfl 8 52 Tryd.underlying79 hlj .u32 Tryd.underlying52 s33 (.int .u32 y) GY.out ?_)
            | (refine wpList_load_cell rfl (some 104) rfl _ (.tmp 103) rfl g2 j rfl _ _ hbj (.int .u32 x) GX.out .u32 Tryd.underlying52 ?_)
            | (refine wpList_store_cell rfl none rfl _ (.tmp 107) (.tmp 106) rfl g2 j (.int .u32 ((x + y) % 4294967296)) rfl rfl rfl _ _ hbj (by rw [length_ints, length_addU, HS.out]; exact hlj) s33 ?_; intro w10 hb10 hgr10; replace hgr := hgr.trans hgr10))
          go_roundw
          case rel => rw [HSET.out] at hb10; exact ⟨j + 1, by omega, by go_num, hb10, hgr⟩
          case measure => simp [intOf]; omega
        · have HJ := Lib.hid (show j = 8 by omega)
          have hbj' : Blk wr g2 79 (ints .u32 (mixL s b)) := by
            have e : mixL s b = addU s [a, b', c, d, e, f, g, h] j := by rw [mixL, ← HW.out, ← HK.out, HRK.out, HJ.out]
            rw [e]; exact hbj
          have hb4w := hb4r.grown hgr (by intro h; injection h with h; omega)
          replace hB := hB.grown hgr hB.size (by intro k hk; injection hk with hk; omega)
          have HLM : Hid ((mixL s b).length = 8) := Lib.hid (by rw [length_mixL, HS.out])
          clear hbj hb4r hgr
          obtain ⟨M, hM⟩ : ∃ M, M = mixL s b := ⟨_, rfl⟩
          rw [← hM] at hbj' HLM
          have HM := Lib.hid hM
          clear hM
          go_wp2_with (first
            | (refine wpList_load_blk rfl (some 109) rfl _ (.tmp 2) rfl _ 0 rfl _ _ hbj' (ints .u32 M) (by simp) _ Tryd.underlying79 rfl (by rw [s34, length_ints, HLM.out]) ?_)
            | (refine wpList_store_blk rfl none rfl _ (.tmp 4) (.tmp 109) rfl g4 0 (ints .u32 M) rfl rfl _ _ hb4w (by simp [HLM.out]) (by rw [s34, length_ints, HLM.out]) (one_ints _ _) ?_; intro w11 hb11 hgr11; replace hB := hB.grown hgr11 hB.size (by intro k hk; injection hk with hk; omega)))
          rw [splice_all _ _ (by simp [HLM.out])] at hb11
          exact bodyPost_ret (v := .agg (ints .u32 M).toArray) (results_blk Tryd.results54 _ _ g4 _ _ _ rfl hb11 Tryd.underlying79 rfl (by rw [s34, length_ints, HLM.out])) rfl ⟨by rw [HM.out], hB⟩
end Go.Proofs.YtdgpphihjeffcaaDoor
