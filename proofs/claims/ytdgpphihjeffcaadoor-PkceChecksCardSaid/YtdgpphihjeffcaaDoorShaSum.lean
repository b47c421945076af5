/- The walk of package sha's Sum of a Hash (this text is written by wip/tpl/gen_sum.py). -/
import Derived.Test.YtdgpphihjeffcaaDoorShaWrite
import Derived.Maps.RangeWalk
namespace Go.Proofs.YtdgpphihjeffcaaDoor
open Go Go.RowKit

theorem z38 : (Tryd.prog.info? 82).map (·.zero) = some (some (.agg (HC (List.replicate 8 0) (List.replicate 64 0) 0).toArray)) := by kernel_rfl
theorem zeros35 : Tryd.prog.built 80 [] = some (ints .u8 (List.replicate 64 0)).toArray := by kernel_rfl
theorem pad_eq (rest : List Int) (h : rest.length < 64) : (splice (ints .u8 (List.replicate 64 0)) 0 (ints .u8 rest)).set rest.length (.int .u8 128) = ints .u8 (padB rest) := by
  have e : splice (ints .u8 (List.replicate 64 0)) 0 (ints .u8 rest) = ints .u8 (rest ++ List.replicate (64 - rest.length) 0) := by
    rw [splice, List.take_zero, List.nil_append, Nat.zero_add, length_ints, ints_append]
    congr 1
    simp only [ints, ← List.map_drop, List.drop_replicate]
  rw [e, set_ints, padB]
  congr 1
  rw [List.set_append_right _ _ (Nat.le_refl _), Nat.sub_self]
  obtain ⟨k, hk⟩ : ∃ k, 64 - rest.length = k + 1 := ⟨63 - rest.length, by omega⟩
  rw [hk, List.replicate_succ, List.set_cons_zero, show 63 - rest.length = k by omega]
theorem Tabs.ofBelow {w w' : World} (h : Tabs w) (hg : Below w.heap.size w w') : Tabs w' := h.below hg

set_option maxRecDepth 100000 in
set_option maxHeartbeats 1000000 in
set_option maxRecDepth 100000 in
theorem hsum_any (g : Nat) (bs : List Int) (w : World) (hn : bs.length < 2305843009213693952) (hrep : HRep w g bs) (htab : Tabs w) :
    Calls Tryd.prog 42 #[.pointer (some ⟨g, 0, none⟩)] w fun e w' => e = .returned (.agg (ints .u8 (digestL bs)).toArray) ∧ Below w.heap.size w w' := by
  obtain ⟨sum, blk, hok, hbg⟩ := hrep
  obtain ⟨n, hn'⟩ : ∃ n, n = bs.length := ⟨_, rfl⟩
  obtain ⟨r, hr⟩ : ∃ r, r = n % 64 := ⟨_, rfl⟩
  have hr64 : r < 64 := by omega
  have hn61 : n < 2305843009213693952 := by omega
  obtain ⟨rest, hrest⟩ : ∃ rest, rest = bs.drop (64 * (bs.length / 64)) := ⟨_, rfl⟩
  have hrl : rest.length = r := by rw [hrest, List.length_drop, hr, hn']; omega
  have htk : blk.take r = rest := by rw [hrest, hr, hn']; exact hok.2.2.2.2.1
  obtain ⟨st, hst⟩ : ∃ st, st = absorb bs (bs.length / 64) := ⟨_, rfl⟩
  have hso : (if bs.length < 64 then startL else sum) = st := by rw [hst]; exact hok.soFar
  have hst8 : st.length = 8 := by rw [hst, length_absorb]
  have hstw : Words st := by rw [hst]; exact absorb_bd _ _
  have hrb : Bytes rest := by rw [← htk]; exact hok.2.2.2.1.take r
  have hs8 := hok.1
  have hb64 := hok.2.2.1
  have hwait := fun (g : Nat) (W : World) (h : Blk W g 82 (HC sum blk n)) => waiting_any g sum blk n W hs8 hb64 hn61 h
  have hsofar := fun (g : Nat) (W : World) (h : Blk W g 82 (HC sum blk n)) (ht : Tabs W) => soFar_any g sum blk n W hs8 hb64 hn61 h ht.2
  rw [← hn'] at hso hbg
  rw [← hr] at hwait
  rw [hso] at hsofar
  have hsl := fun (g : Nat) => run_sliceAt_to (P := Tryd.prog) 80 5 64 Tryd.underlying80 s5 g 8 r (by omega) (by omega) .i64
  have hsw := fun (g : Nat) => run_sliceAt_whole (P := Tryd.prog) 80 5 64 Tryd.underlying80 s5 g 0 (by omega)
  have hsf : ∀ (g : Nat) (w : World), (Instr.sliceAt 80 (.pointer (some ⟨g, 0, none⟩)) (some (.int .i64 56)) none none).run Tryd.prog w = .ok (.slice (some ⟨g, 56, none⟩) 8 8) w := fun (g : Nat) => run_sliceAt_from (P := Tryd.prog) 80 5 64 Tryd.underlying80 s5 g 0 56 (by omega) .i64
  have HST := Lib.hid hst
  have HST8 := Lib.hid hst8
  have HSTW := Lib.hid hstw
  have HN := Lib.hid hn'
  have HRL := Lib.hid hrl
  have HTK := Lib.hid htk
  have HREST := Lib.hid hrest
  have HRB := Lib.hid hrb
  have HS8 := Lib.hid hs8
  have HB64 := Lib.hid hb64
  have HT := Lib.hid htab
  have HR := Lib.hid hr
  clear hst hst8 hstw hn' hrl htk hrest hrb hs8 hb64 hok htab hso hn hr
  have hcut : Hid (∀ _ : Unit, digestL bs = sbL (if 64 - r - 1 < 8 then mixL (mixL st (padB rest)) (putC (List.replicate 64 0) (n * 8) 8) else mixL st (putC (padB rest) (n * 8) 8)) 8) := Lib.hid (fun _ => by
    rw [digestL, finL, HST.out, HREST.out, HN.out, HR.out, HN.out])
  by_cases hlow : 64 - r - 1 < 8
  · go_enter Tryd.func42, Tryd.ntmps42
    go_wp2_with (first
      | (refine wpList_alloc_blk rfl (some 2) rfl _ rfl _ z24 ?_; intro g2 w2 hg2 hb2 hgr; have hB := (Below.refl _ w).grown hgr (Nat.le_refl _) (by simp); replace hbg := hbg.grownN hgr; clear hgr; try go_frame; try go_frame)
      | (refine wpList_alloc_blk rfl (some 3) rfl _ rfl _ z35 ?_; intro g3 w3 hg3 hb3 hgr; have hg3g : g < g3 := Nat.lt_of_lt_of_le hbg.lt hg3; have h23 : g2 < g3 := Nat.lt_of_lt_of_le hb2.lt hg3; have h3B : w.heap.size ≤ g3 := Nat.le_trans hB.size hg3; replace hB := hB.grown hgr hB.size (by simp); replace hb2 := hb2.grownN hgr; replace hbg := hbg.grownN hgr; clear hgr; try go_frame; try go_frame))
    have hrd : ∀ j v, (ints .u8 rest)[j]? = some v → w3.drew.cell? ((⟨g, 8, none⟩ : Addr).add j) = some v := fun j v hv => by
      rw [Addr.add_mid]
      refine (hbg.cell (8 + j)).trans (HC_blk sum blk n HS8.out j v ?_)
      rw [← HTK.out] at hv
      simp only [ints, List.map_take, List.getElem?_take] at hv
      split at hv
      · exact hv
      · cases hv
    go_region_law (first
      | (refine step_copy_blk (w := w3.drew) rfl (.tmp 10) (.tmp 16) _ _ rfl 5 Tryd.underlying37 s5 (some ⟨g3, 0, none⟩) (some ⟨g, 8, none⟩) 64 64 r 64 (by simp [Act.eval, Act.put]) (by simp [Act.eval, Act.put]) g3 0 _ _ hb3.drew (ints .u8 rest) r (by rw [length_ints, HRL.out]) (Nat.min_eq_left (by omega)).symm (fun _ => ⟨rfl, _, rfl, hrd⟩) (by rw [length_ints, length_ints, HRL.out, List.length_replicate]; omega) (one_ints _ _) ?_; intro w4 hb4 hgr4)
      | (go_simp; go_at_call 53; refine (hwait g w3.drew hbg.drew).mono ?_; rintro e w' ⟨rfl, rfl⟩))
    have hgr4' : w3.grownBy w4 (some g3) := (grownBy_drew (grownBy_refl w3 _)).trans hgr4
    have hB4 := hB.grown hgr4' hB.size (by intro k hk; injection hk with hk; omega)
    have hb2' := hb2.grown hgr4' (by intro h; injection h with h; omega)
    have hbg' := hbg.grown hgr4' (by intro h; injection h with h; omega)
    have hT4 : Hid (Tabs w4) := Lib.hid (HT.out.ofBelow hB4)
    clear hgr4 hgr4' hB hb2 hbg hb3 hrd
    go_wp2_with (first
      | (refine wpList_store_cell rfl none rfl _ (.tmp 19) (Operand.const (.int .u8 128)) rfl g3 r (.int .u8 128) rfl rfl rfl _ _ hb4 (by rw [length_splice _ _ _ (by rw [length_ints, length_ints, HRL.out, List.length_replicate]; omega), length_ints, List.length_replicate]; omega) s5 ?_; intro w5 hb5 hgr; have hp5 : Blk w5 g3 80 (ints .u8 (padB rest)) := (by rw [← pad_eq rest (by rw [HRL.out]; omega), HRL.out]; exact hb5); have hB5 := hB4.grown hgr hB4.size (by intro k hk; injection hk with hk; omega); have h25 := hb2'.grown hgr (by intro h; injection h with h; omega); have hg5 := hbg'.grown hgr (by intro h; injection h with h; omega); clear hgr hb5; try go_frame; try go_frame)
      | (go_at_call 55; refine (hsofar g w5 hg5 (HT.out.ofBelow hB5)).mono ?_; rintro e w6 ⟨rfl, hbw⟩; have hB6 := hB5.trans (hbw.mono hB5.size); have h26 := h25.below hbw h25.lt; have hg6 := hg5.below hbw hg5.lt; have hp6 := hp5.below hbw hp5.lt; clear hbw; try go_frame)
      | (refine wpList_alloc_blk rfl (some 5) rfl _ rfl _ z34 ?_; intro g7 w7 hg7 hb7 hgr; have h37 : g3 < g7 := Nat.lt_of_lt_of_le hp6.lt hg7; have hg7g : g < g7 := Nat.lt_of_lt_of_le hg6.lt hg7; have h7B : w.heap.size ≤ g7 := Nat.le_trans hB6.size hg7; have hB7 := hB6.grown hgr hB6.size (by simp); have h27 := h26.grownN hgr; have hgg7 := hg6.grownN hgr; have hp7 := hp6.grownN hgr; clear hgr; try go_frame; try go_frame)
      | (refine wpList_store_blk rfl none rfl _ (.tmp 5) (.tmp 21) rfl g7 0 (ints .u32 st) rfl rfl _ _ hb7 (by simp [HST8.out]) (by rw [s34, length_ints, HST8.out]) (one_ints _ _) ?_; intro w8 hb8 hgr; rw [splice_all _ _ (by simp [HST8.out])] at hb8; have hB8 := hB7.grown hgr hB7.size (by intro k hk; injection hk with hk; omega); have h28 := h27.grown hgr (by intro h; injection h with h; omega); have hg8 := hgg7.grown hgr (by intro h; injection h with h; omega); have hp8 := hp7.grown hgr (by intro h; injection h with h; omega); clear hgr; try go_frame; try go_frame)
      | (refine wpList_load_blk rfl (some 28) rfl _ (.tmp 5) rfl _ 0 rfl _ _ hb8 (ints .u32 st) (by simp) _ Tryd.underlying79 rfl (by rw [s34, length_ints, HST8.out]) ?_; try go_frame; try go_frame)
      | (refine wpList_load_blk rfl (some 29) rfl _ (.tmp 3) rfl _ 0 rfl _ _ hp8 (ints .u8 (padB rest)) (by simp) _ Tryd.underlying80 rfl (by rw [s35, length_ints, length_padB (by rw [HRL.out]; omega)]) ?_; try go_frame; try go_frame)
      | (go_at_call 54; refine (mix_any st (padB rest) w8 HST8.out HSTW.out (length_padB (by rw [HRL.out]; omega)) (padB_bd HRB.out) (HT.out.ofBelow hB8).1).mono ?_; rintro e w9 ⟨rfl, hbw⟩; have hB9 := hB8.trans (hbw.mono hB8.size); have h29 := h28.below hbw h28.lt; have hg9 := hg8.below hbw hg8.lt; have hp9 := hp8.below hbw hp8.lt; have hb9 := hb8.below hbw hb8.lt; clear hbw; try go_frame)
      | (refine wpList_store_blk rfl none rfl _ (.tmp 5) (.tmp 30) rfl g7 0 (ints .u32 (mixL st (padB rest))) rfl rfl _ _ hb9 (by simp [HST8.out, length_mixL]) (by rw [s34, length_ints, length_mixL, HST8.out]) (one_ints _ _) ?_; intro wa hba hgr; rw [splice_all _ _ (by simp [HST8.out, length_mixL])] at hba; have hBa := hB9.grown hgr hB9.size (by intro k hk; injection hk with hk; omega); have h2a := h29.grown hgr (by intro h; injection h with h; omega); have hga := hg9.grown hgr (by intro h; injection h with h; omega); have hpa := hp9.grown hgr (by intro h; injection h with h; omega); clear hgr; try go_frame; try go_frame)
      | (refine wpList_buildTo rfl _ _ rfl (some 31) rfl _ zeros35 ?_; try go_frame; try go_frame)
      | (refine wpList_store_blk rfl none rfl _ (.tmp 3) (.tmp 31) rfl g3 0 (ints .u8 (List.replicate 64 0)) rfl rfl _ _ hpa (by rw [length_ints, length_ints, length_padB (by rw [HRL.out]; omega)]; simp) (by rw [s35]; rfl) (one_ints _ _) ?_; intro wb hpb hgr; rw [splice_all _ _ (by rw [length_ints, length_ints, length_padB (by rw [HRL.out]; omega)]; simp)] at hpb; have hBb := hBa.grown hgr hBa.size (by intro k hk; injection hk with hk; omega); have h2b := h2a.grown hgr (by intro h; injection h with h; omega); have hgb := hga.grown hgr (by intro h; injection h with h; omega); have hbb := hba.grown hgr (by intro h; injection h with h; omega); clear hgr; try go_frame; try go_frame))
    try go_frame
    have hsz := (hgb.cell 72).trans (HC_size sum blk n HS8.out HB64.out)
    have hL64 : (List.replicate 64 (0 : Int)).length = 64 := by first | (exact length_padB (by rw [HRL.out]; omega)) | simp
    have hLB : Bytes (List.replicate 64 (0 : Int)) := by first | exact padB_bd HRB.out | exact Bytes.rep 64
    have hput := fun W (h : Blk W g3 80 (ints .u8 (List.replicate 64 (0 : Int)))) => putCount_any g3 (List.replicate 64 (0 : Int)) ((n : Int) * 8) W hL64 (by omega) (by omega) h
    have hS8 : (mixL st (padB rest)).length = 8 := by first | exact HST8.out | (rw [length_mixL, HST8.out])
    have hSW : Words (mixL st (padB rest)) := by first | exact HSTW.out | (exact fun i => mixL_bd _ _ HSTW.out i)
    have hPB : Bytes (putC (List.replicate 64 (0 : Int)) ((n : Int) * 8) 8) := fun i => putC_bd _ _ hLB 8 i
    obtain ⟨S, hSd⟩ : ∃ S, S = mixL st (padB rest) := ⟨_, rfl⟩
    obtain ⟨L, hLd⟩ : ∃ L, L = putC (List.replicate 64 (0 : Int)) ((n : Int) * 8) 8 := ⟨_, rfl⟩
    have hL8 : L.length = 64 := by rw [hLd, length_putC, hL64]
    rw [← hSd] at hS8 hSW hbb
    rw [← hLd] at hPB hput
    have HSD := Lib.hid hSd
    have HLD := Lib.hid hLd
    have HS8' := Lib.hid hS8
    have HSW' := Lib.hid hSW
    have HPB := Lib.hid hPB
    have HL8 := Lib.hid hL8
    clear hSd hLd hS8 hSW hPB hL64 hLB hL8
    have hwr : IntKind.u64.wrap ((n : Int) * 8) = (n : Int) * 8 := by rw [IntKind.wrap_u64]; omega
    go_region_law (go_simp; go_at_call 56; ((with_reducible refine (hput _ hpb.drew).mono ?_); rintro e wp ⟨rfl, hpp, hgp⟩))
    clear hwr
    have hgp' : Go.World.grownBy wb wp (some g3) := (grownBy_drew (grownBy_refl wb _)).trans hgp
    have hBp := hBb.grown hgp' hBb.size (by intro k hk; injection hk with hk; omega)
    have h2p := h2b.grown hgp' (by intro h; injection h with h; omega)
    have hbp := hbb.grown hgp' (by intro h; injection h with h; omega)
    clear hgp hgp' hsz hput hBb h2b hgb hbb hpb
    have hmix := mix_any S L wp HS8'.out HSW'.out HL8.out HPB.out (HT.out.ofBelow hBp).1
    have hM8 : Hid ((mixL S L).length = 8) := Lib.hid (by rw [length_mixL, HS8'.out])
    have hMW : Hid (Words (mixL S L)) := Lib.hid (fun i => mixL_bd _ _ HSW'.out i)
    have hfin : Hid (∀ _ : Unit, digestL bs = sbL (mixL S L) 8) := Lib.hid (fun _ => by rw [hcut.out (), HSD.out, HLD.out]; first | rw [if_pos hlow] | rw [if_neg hlow])
    obtain ⟨M, hMd⟩ : ∃ M, M = mixL S L := ⟨_, rfl⟩
    rw [← hMd] at hmix hM8 hMW hfin
    clear hMd
    go_wp2_with (first
      | (refine wpList_load_blk rfl (some 39) rfl _ (.tmp 5) rfl _ 0 rfl _ _ hbp (ints .u32 S) (by simp) _ Tryd.underlying79 rfl (by rw [s34, length_ints, HS8'.out]) ?_; try go_frame; try go_frame)
      | (refine wpList_load_blk rfl (some 40) rfl _ (.tmp 3) rfl _ 0 rfl _ _ hpp (ints .u8 L) (by simp) _ Tryd.underlying80 rfl (by rw [s35, length_ints, HL8.out]) ?_; try go_frame; try go_frame)
      | (go_at_call 54; refine hmix.mono ?_; rintro e wq ⟨rfl, hbw⟩; have hBq := hBp.trans (hbw.mono hBp.size); have h2q := h2p.below hbw h2p.lt; have hbq := hbp.below hbw hbp.lt; clear hbw hmix; try go_frame)
      | (refine wpList_store_blk rfl none rfl _ (.tmp 5) (.tmp 41) rfl g7 0 (ints .u32 M) rfl rfl _ _ hbq (by simp [HS8'.out, hM8.out]) (by rw [s34, length_ints, hM8.out]) (one_ints _ _) ?_; intro wr hbr hgr; rw [splice_all _ _ (by simp [HS8'.out, hM8.out])] at hbr; have hBr := hBq.grown hgr hBq.size (by intro k hk; injection hk with hk; omega); have h2r := h2q.grown hgr (by intro h; injection h with h; omega); clear hgr; try go_frame; try go_frame)
      | (refine wpList_load_blk rfl (some 42) rfl _ (.tmp 5) rfl _ 0 rfl _ _ hbr (ints .u32 M) (by simp) _ Tryd.underlying79 rfl (by rw [s34, length_ints, hM8.out]) ?_; try go_frame; try go_frame)
      | (go_at_call 57; refine (sumBytes_any M wr hM8.out hMW.out).mono ?_; rintro e ws ⟨rfl, hbw⟩; have hBs := hBr.trans (hbw.mono hBr.size); have h2s := h2r.below hbw h2r.lt; clear hbw; try go_frame)
      | (refine wpList_store_blk rfl none rfl _ (.tmp 2) (.tmp 43) rfl g2 0 (ints .u8 (sbL M 8)) rfl rfl _ _ h2s (by simp) (by rw [s24, length_ints, length_sbL]) (one_ints _ _) ?_; intro wt h2t hgr; rw [splice_all _ _ (by simp)] at h2t; have hBt := hBs.grown hgr hBs.size (by intro k hk; injection hk with hk; omega); clear hgr; try go_frame; try go_frame))
    exact bodyPost_ret (v := .agg (ints .u8 (sbL M 8)).toArray) (results_blk Tryd.results42 _ _ g2 _ _ _ rfl h2t Tryd.underlying35 rfl (by rw [s24, length_ints, length_sbL])) rfl ⟨by rw [← hfin.out ()], hBt⟩
  · go_enter Tryd.func42, Tryd.ntmps42
    go_wp2_with (first
      | (refine wpList_alloc_blk rfl (some 2) rfl _ rfl _ z24 ?_; intro g2 w2 hg2 hb2 hgr; have hB := (Below.refl _ w).grown hgr (Nat.le_refl _) (by simp); replace hbg := hbg.grownN hgr; clear hgr; try go_frame; try go_frame)
      | (refine wpList_alloc_blk rfl (some 3) rfl _ rfl _ z35 ?_; intro g3 w3 hg3 hb3 hgr; have hg3g : g < g3 := Nat.lt_of_lt_of_le hbg.lt hg3; have h23 : g2 < g3 := Nat.lt_of_lt_of_le hb2.lt hg3; have h3B : w.heap.size ≤ g3 := Nat.le_trans hB.size hg3; replace hB := hB.grown hgr hB.size (by simp); replace hb2 := hb2.grownN hgr; replace hbg := hbg.grownN hgr; clear hgr; try go_frame; try go_frame))
    have hrd : ∀ j v, (ints .u8 rest)[j]? = some v → w3.drew.cell? ((⟨g, 8, none⟩ : Addr).add j) = some v := fun j v hv => by
      rw [Addr.add_mid]
      refine (hbg.cell (8 + j)).trans (HC_blk sum blk n HS8.out j v ?_)
      rw [← HTK.out] at hv
      simp only [ints, List.map_take, List.getElem?_take] at hv
      split at hv
      · exact hv
      · cases hv
    go_region_law (first
      | (refine step_copy_blk (w := w3.drew) rfl (.tmp 10) (.tmp 16) _ _ rfl 5 Tryd.underlying37 s5 (some ⟨g3, 0, none⟩) (some ⟨g, 8, none⟩) 64 64 r 64 (by simp [Act.eval, Act.put]) (by simp [Act.eval, Act.put]) g3 0 _ _ hb3.drew (ints .u8 rest) r (by rw [length_ints, HRL.out]) (Nat.min_eq_left (by omega)).symm (fun _ => ⟨rfl, _, rfl, hrd⟩) (by rw [length_ints, length_ints, HRL.out, List.length_replicate]; omega) (one_ints _ _) ?_; intro w4 hb4 hgr4)
      | (go_simp; go_at_call 53; refine (hwait g w3.drew hbg.drew).mono ?_; rintro e w' ⟨rfl, rfl⟩))
    have hgr4' : w3.grownBy w4 (some g3) := (grownBy_drew (grownBy_refl w3 _)).trans hgr4
    have hB4 := hB.grown hgr4' hB.size (by intro k hk; injection hk with hk; omega)
    have hb2' := hb2.grown hgr4' (by intro h; injection h with h; omega)
    have hbg' := hbg.grown hgr4' (by intro h; injection h with h; omega)
    have hT4 : Hid (Tabs w4) := Lib.hid (HT.out.ofBelow hB4)
    clear hgr4 hgr4' hB hb2 hbg hb3 hrd
    go_wp2_with (first
      | (refine wpList_store_cell rfl none rfl _ (.tmp 19) (Operand.const (.int .u8 128)) rfl g3 r (.int .u8 128) rfl rfl rfl _ _ hb4 (by rw [length_splice _ _ _ (by rw [length_ints, length_ints, HRL.out, List.length_replicate]; omega), length_ints, List.length_replicate]; omega) s5 ?_; intro w5 hb5 hgr; have hp5 : Blk w5 g3 80 (ints .u8 (padB rest)) := (by rw [← pad_eq rest (by rw [HRL.out]; omega), HRL.out]; exact hb5); have hB5 := hB4.grown hgr hB4.size (by intro k hk; injection hk with hk; omega); have h25 := hb2'.grown hgr (by intro h; injection h with h; omega); have hg5 := hbg'.grown hgr (by intro h; injection h with h; omega); clear hgr hb5; try go_frame; try go_frame)
      | (go_at_call 55; refine (hsofar g w5 hg5 (HT.out.ofBelow hB5)).mono ?_; rintro e w6 ⟨rfl, hbw⟩; have hB6 := hB5.trans (hbw.mono hB5.size); have h26 := h25.below hbw h25.lt; have hg6 := hg5.below hbw hg5.lt; have hp6 := hp5.below hbw hp5.lt; clear hbw; try go_frame)
      | (refine wpList_alloc_blk rfl (some 5) rfl _ rfl _ z34 ?_; intro g7 w7 hg7 hb7 hgr; have h37 : g3 < g7 := Nat.lt_of_lt_of_le hp6.lt hg7; have hg7g : g < g7 := Nat.lt_of_lt_of_le hg6.lt hg7; have h7B : w.heap.size ≤ g7 := Nat.le_trans hB6.size hg7; have hB7 := hB6.grown hgr hB6.size (by simp); have h27 := h26.grownN hgr; have hgg7 := hg6.grownN hgr; have hp7 := hp6.grownN hgr; clear hgr; try go_frame; try go_frame)
      | (refine wpList_store_blk rfl none rfl _ (.tmp 5) (.tmp 21) rfl g7 0 (ints .u32 st) rfl rfl _ _ hb7 (by simp [HST8.out]) (by rw [s34, length_ints, HST8.out]) (one_ints _ _) ?_; intro w8 hb8 hgr; rw [splice_all _ _ (by simp [HST8.out])] at hb8; have hB8 := hB7.grown hgr hB7.size (by intro k hk; injection hk with hk; omega); have h28 := h27.grown hgr (by intro h; injection h with h; omega); have hg8 := hgg7.grown hgr (by intro h; injection h with h; omega); have hp8 := hp7.grown hgr (by intro h; injection h with h; omega); clear hgr; try go_frame; try go_frame))
    try go_frame
    have hsz := (hg8.cell 72).trans (HC_size sum blk n HS8.out HB64.out)
    have hL64 : (padB rest).length = 64 := by first | (exact length_padB (by rw [HRL.out]; omega)) | simp
    have hLB : Bytes (padB rest) := by first | exact padB_bd HRB.out | exact Bytes.rep 64
    have hput := fun W (h : Blk W g3 80 (ints .u8 (padB rest))) => putCount_any g3 (padB rest) ((n : Int) * 8) W hL64 (by omega) (by omega) h
    have hS8 : (st).length = 8 := by first | exact HST8.out | (rw [length_mixL, HST8.out])
    have hSW : Words (st) := by first | exact HSTW.out | (exact fun i => mixL_bd _ _ HSTW.out i)
    have hPB : Bytes (putC (padB rest) ((n : Int) * 8) 8) := fun i => putC_bd _ _ hLB 8 i
    obtain ⟨S, hSd⟩ : ∃ S, S = st := ⟨_, rfl⟩
    obtain ⟨L, hLd⟩ : ∃ L, L = putC (padB rest) ((n : Int) * 8) 8 := ⟨_, rfl⟩
    have hL8 : L.length = 64 := by rw [hLd, length_putC, hL64]
    rw [← hSd] at hS8 hSW hb8
    rw [← hLd] at hPB hput
    have HSD := Lib.hid hSd
    have HLD := Lib.hid hLd
    have HS8' := Lib.hid hS8
    have HSW' := Lib.hid hSW
    have HPB := Lib.hid hPB
    have HL8 := Lib.hid hL8
    clear hSd hLd hS8 hSW hPB hL64 hLB hL8
    have hwr : IntKind.u64.wrap ((n : Int) * 8) = (n : Int) * 8 := by rw [IntKind.wrap_u64]; omega
    go_region_law (go_simp; go_at_call 56; ((with_reducible refine (hput _ hp8.drew).mono ?_); rintro e wp ⟨rfl, hpp, hgp⟩))
    clear hwr
    have hgp' : Go.World.grownBy w8 wp (some g3) := (grownBy_drew (grownBy_refl w8 _)).trans hgp
    have hBp := hB8.grown hgp' hB8.size (by intro k hk; injection hk with hk; omega)
    have h2p := h28.grown hgp' (by intro h; injection h with h; omega)
    have hbp := hb8.grown hgp' (by intro h; injection h with h; omega)
    clear hgp hgp' hsz hput hB8 h28 hg8 hb8 hp8
    have hmix := mix_any S L wp HS8'.out HSW'.out HL8.out HPB.out (HT.out.ofBelow hBp).1
    have hM8 : Hid ((mixL S L).length = 8) := Lib.hid (by rw [length_mixL, HS8'.out])
    have hMW : Hid (Words (mixL S L)) := Lib.hid (fun i => mixL_bd _ _ HSW'.out i)
    have hfin : Hid (∀ _ : Unit, digestL bs = sbL (mixL S L) 8) := Lib.hid (fun _ => by rw [hcut.out (), HSD.out, HLD.out]; first | rw [if_pos hlow] | rw [if_neg hlow])
    obtain ⟨M, hMd⟩ : ∃ M, M = mixL S L := ⟨_, rfl⟩
    rw [← hMd] at hmix hM8 hMW hfin
    clear hMd
    go_wp2_with (first
      | (refine wpList_load_blk rfl (some 39) rfl _ (.tmp 5) rfl _ 0 rfl _ _ hbp (ints .u32 S) (by simp) _ Tryd.underlying79 rfl (by rw [s34, length_ints, HS8'.out]) ?_; try go_frame; try go_frame)
      | (refine wpList_load_blk rfl (some 40) rfl _ (.tmp 3) rfl _ 0 rfl _ _ hpp (ints .u8 L) (by simp) _ Tryd.underlying80 rfl (by rw [s35, length_ints, HL8.out]) ?_; try go_frame; try go_frame)
      | (go_at_call 54; refine hmix.mono ?_; rintro e wq ⟨rfl, hbw⟩; have hBq := hBp.trans (hbw.mono hBp.size); have h2q := h2p.below hbw h2p.lt; have hbq := hbp.below hbw hbp.lt; clear hbw hmix; try go_frame)
      | (refine wpList_store_blk rfl none rfl _ (.tmp 5) (.tmp 41) rfl g7 0 (ints .u32 M) rfl rfl _ _ hbq (by simp [HS8'.out, hM8.out]) (by rw [s34, length_ints, hM8.out]) (one_ints _ _) ?_; intro wr hbr hgr; rw [splice_all _ _ (by simp [HS8'.out, hM8.out])] at hbr; have hBr := hBq.grown hgr hBq.size (by intro k hk; injection hk with hk; omega); have h2r := h2q.grown hgr (by intro h; injection h with h; omega); clear hgr; try go_frame; try go_frame)
      | (refine wpList_load_blk rfl (some 42) rfl _ (.tmp 5) rfl _ 0 rfl _ _ hbr (ints .u32 M) (by simp) _ Tryd.underlying79 rfl (by rw [s34, length_ints, hM8.out]) ?_; try go_frame; try go_frame)
      | (go_at_call 57; refine (sumBytes_any M wr hM8.out hMW.out).mono ?_; rintro e ws ⟨rfl, hbw⟩; have hBs := hBr.trans (hbw.mono hBr.size); have h2s := h2r.below hbw h2r.lt; clear hbw; try go_frame)
      | (refine wpList_store_blk rfl none rfl _ (.tmp 2) (.tmp 43) rfl g2 0 (ints .u8 (sbL M 8)) rfl rfl _ _ h2s (by simp) (by rw [s24, length_ints, length_sbL]) (one_ints _ _) ?_; intro wt h2t hgr; rw [splice_all _ _ (by simp)] at h2t; have hBt := hBs.grown hgr hBs.size (by intro k hk; injection hk with hk; omega); clear hgr; try go_frame; try go_frame))
    exact bodyPost_ret (v := .agg (ints .u8 (sbL M 8)).toArray) (results_blk Tryd.results42 _ _ g2 _ _ _ rfl h2t Tryd.underlying35 rfl (by rw [s24, length_ints, length_sbL])) rfl ⟨by rw [← hfin.out ()], hBt⟩

end Go.Proofs.YtdgpphihjeffcaaDoor
