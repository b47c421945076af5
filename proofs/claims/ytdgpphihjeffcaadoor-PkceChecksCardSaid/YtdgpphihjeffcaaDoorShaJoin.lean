/- The walks of package sha's Join and Sum. -/
import Derived.Test.YtdgpphihjeffcaaDoorShaSum
namespace Go.Proofs.YtdgpphihjeffcaaDoor
open Go Go.RowKit

/-- A part that is joined: its address, its capacity, its bytes. -/
def Part : Type := Option Addr × Nat × List Int
def Part.val (p : Part) : Value := .slice p.1 p.2.2.length p.2.1
def flat (ps : List Part) : List Int := (ps.map fun p => p.2.2).flatten
def PartOk (w : World) (p : Part) : Prop := Bytes p.2.2 ∧ p.2.2.length ≤ p.2.1 ∧ Lies w p.1 p.2.2
theorem PartOk.below {w w' : World} {p : Part} (h : PartOk w p) (hb : Below w.heap.size w w') : PartOk w' p := ⟨h.1, h.2.1, h.2.2.below hb⟩
/-- The slice of slices '.slice P _ _' reads as the parts ps. -/
def PartsAt (w : World) (P : Option Addr) (ps : List Part) : Prop :=
  0 < ps.length → ∃ b o, P = some ⟨b, o, none⟩ ∧ b < w.heap.size ∧ ∀ j p, ps[j]? = some p → w.cell? ⟨b, o + j, none⟩ = some p.val
theorem flat_take (ps : List Part) (j : Nat) (p : Part) (h : ps[j]? = some p) : flat (ps.take (j + 1)) = flat (ps.take j) ++ p.2.2 := by
  rw [List.take_add_one, h]
  simp [flat]
theorem flat_le (ps : List Part) (j : Nat) : (flat (ps.take j)).length ≤ (flat ps).length := by
  have : flat ps = flat (ps.take j) ++ flat (ps.drop j) := by
    rw [flat, flat, flat, ← List.flatten_append, ← List.map_append, List.take_append_drop]
  rw [this, List.length_append]; omega

set_option maxRecDepth 100000 in
set_option maxHeartbeats 400000 in
theorem join_any (P : Option Addr) (ps : List Part) (c : Nat) (w : World) (hlen : ps.length ≤ 9223372036854775807) (hn : (flat ps).length < 2305843009213693952) (hps : ∀ p ∈ ps, PartOk w p) (hat : PartsAt w P ps) (htab : Tabs w) :
    Calls Tryd.prog 27 #[.slice P ps.length c] w fun e w' => e = .returned (.agg (ints .u8 (digestL (flat ps))).toArray) ∧ Below w.heap.size w w' := by
  have HPS := Lib.hid hps
  have HAT := Lib.hid hat
  have HT := Lib.hid htab
  obtain ⟨k, hk⟩ : ∃ k, k = ps.length := ⟨_, rfl⟩
  rw [← hk] at hlen ⊢
  have HK := Lib.hid hk
  clear hps hat htab hk
  go_enter Tryd.func27, Tryd.ntmps27
  go_wp2_with (first
    | (refine wpList_alloc_blk rfl (some 2) rfl _ rfl _ z24 ?_; intro g2 w2 hg2 hb2 hgr; have hB := (Below.refl _ w).grown hgr (Nat.le_refl _) (by simp); clear hgr; try go_frame)
    | (refine wpList_alloc_blk rfl (some 3) rfl _ rfl _ z38 ?_; intro g3 w3 hg3 hb3 hgr; have h23 : g2 < g3 := Nat.lt_of_lt_of_le hb2.lt hg3; have h3B : w.heap.size ≤ g3 := Nat.le_trans hB.size hg3; replace hB := hB.grown hgr hB.size (by simp); replace hb2 := hb2.grownN hgr; clear hgr; try go_frame))
  have hT3 : Hid (Tabs w3) := Lib.hid (HT.out.ofBelow hB)
  have hb2h := Lib.hid hb2
  have HB3 := Lib.hid hb3
  have HB := Lib.hid hB
  clear hB hb2 hb3
  go_loopw [8] (fun i wr => ∃ j : Nat, j ≤ k ∧ i = .int .i64 j ∧ HRep wr g3 (flat (ps.take j)) ∧ w3.grownBy wr (some g3)) (fun i _ => k - (intOf i).toNat)
  case atStart => exact ⟨0, by omega, rfl, ⟨_, _, HOk.zero, HB3.out⟩, grownBy_refl _ _⟩
  case round =>
    obtain ⟨j, hj, rfl, hrep, hgr⟩ := hrel
    have HREP := Lib.hid hrep
    have HGR := Lib.hid hgr
    clear hrep hgr
    by_cases hlt : j < k
    · obtain ⟨p, hp⟩ : ∃ p, ps[j]? = some p := ⟨ps[j]'(by rw [← HK.out]; exact hlt), List.getElem?_eq_getElem _⟩
      obtain ⟨hby, hpc, hlies⟩ := HPS.out p (List.mem_of_getElem? hp)
      obtain ⟨b, o, rfl, hbl, hcell⟩ := HAT.out (by rw [← HK.out]; omega)
      have hgc : wr.cell? ⟨b, o + j, none⟩ = some p.val := by
        rw [World.cell?_of_block (w := w3) (HGR.out.block b (Nat.lt_of_lt_of_le hbl HB.out.size) (by intro e; injection e with e; omega)), HB.out.cell hbl]
        exact hcell j p hp
      have hsrc : Src wr g3 p.1 p.2.2 := by
        have h1 := Src.grown (hlies.src h3B) (grownBy_of_below HB.out none) (.inl rfl)
        exact h1.grown HGR.out (.inr rfl)
      have hTr : Tabs wr := by
        obtain ⟨s0, b0, _, hb0⟩ := HREP.out
        exact hT3.out.grown HB3.out HGR.out
      have hle := flat_le ps (j + 1)
      have hft := flat_take ps j p hp
      rw [hft, List.length_append] at hle
      have hw := write_any g3 (flat (ps.take j)) p.2.2 p.1 p.2.1 wr hby hpc (by omega) HREP.out hsrc hTr
      rw [← hft] at hw
      clear hby hpc hlies hcell hsrc hTr hle hft hp hbl
      unfold Part.val at hgc
      obtain ⟨A, c', xs⟩ := p
      simp only at hgc hw
      go_wp2_with (go_at_call 41; refine hw.mono ?_; rintro e w4 ⟨rfl, hrep4, hgr4⟩; have H4 := Lib.hid (And.intro hrep4 (HGR.out.trans hgr4)); clear hrep4 hgr4 hw hgc)
      go_roundw
      case rel => exact ⟨j + 1, by omega, by go_num, H4.out.1, H4.out.2⟩
      case measure => simp [intOf]; omega
    · have HJ := Lib.hid (show j = ps.length by rw [← HK.out]; omega)
      have hrep' : HRep wr g3 (flat ps) := by
        have := HREP.out
        rw [HJ.out, List.take_length] at this; exact this
      have hTr : Tabs wr := hT3.out.grown HB3.out HGR.out
      have hs := hsum_any g3 (flat ps) wr hn hrep' hTr
      have hB4 := HB.out.grown HGR.out HB.out.size (by intro k hk; injection hk with hk; omega)
      have h24 := hb2h.out.grown HGR.out (by intro h; injection h with h; omega)
      obtain ⟨D, hD⟩ : ∃ D, D = digestL (flat ps) := ⟨_, rfl⟩
      have HD32 := Lib.hid (show D.length = 32 by rw [hD, length_digestL])
      rw [← hD] at hs
      have HD := Lib.hid (fun _ : Unit => hD)
      clear hD hrep' hTr
      go_wp2_with (first
        | (go_at_call 42; refine hs.mono ?_; rintro e w5 ⟨rfl, hbw⟩; have hB5 := hB4.trans (hbw.mono hB4.size); have h25 := h24.below hbw h24.lt; clear hbw hs)
        | (refine wpList_store_blk rfl none rfl _ (.tmp 2) (.tmp 15) rfl g2 0 (ints .u8 D) rfl rfl _ _ h25 (by simp [HD32.out]) (by rw [s24, length_ints, HD32.out]) (one_ints _ _) ?_; intro w6 h26 hgr; rw [splice_all _ _ (by simp [HD32.out])] at h26; have hB6 := hB5.grown hgr hB5.size (by intro k hk; injection hk with hk; omega); clear hgr; try go_frame))
      exact bodyPost_ret (v := .agg (ints .u8 D).toArray) (results_blk Tryd.results27 _ _ g2 _ _ _ rfl h26 Tryd.underlying35 rfl (by rw [s24, length_ints, HD32.out])) rfl ⟨by rw [HD.out ()], hB6⟩

theorem flat_one (A : Option Addr) (c : Nat) (xs : List Int) : flat [((A, c, xs) : Part)] = xs := by show List.flatten [xs] = xs; simp
theorem flat_two (A B : Option Addr) (c d : Nat) (xs ys : List Int) : flat [((A, c, xs) : Part), ((B, d, ys) : Part)] = xs ++ ys := by show List.flatten [xs, ys] = xs ++ ys; simp

/-- One part, two parts, laid in a new block. -/
theorem join_one (A : Option Addr) (c : Nat) (xs : List Int) (w : World) (hc : xs.length ≤ c) (hn : xs.length < 2305843009213693952) (hx : Bytes xs) (hl : Lies w A xs) (htab : Tabs w) (t : TypeId) :
    Calls Tryd.prog 27 #[.slice (some ⟨w.heap.size, 0, none⟩) 1 1] (w.alloc (.cells #[.slice A xs.length c] t)) fun e w' => e = .returned (.agg (ints .u8 (digestL xs)).toArray) ∧ Below w.heap.size w w' := by
  have hb : Below w.heap.size w (w.alloc (.cells #[.slice A xs.length c] t)) := (Below.refl _ w).alloc (Nat.le_refl _) _
  have h := join_any (some ⟨w.heap.size, 0, none⟩) [((A, c, xs) : Part)] 1 (w.alloc (.cells #[.slice A xs.length c] t)) (by show 1 ≤ _; decide) (by rw [flat_one]; exact hn)
    (fun p hp => by rw [List.mem_singleton.1 hp]; exact PartOk.below ⟨hx, hc, hl⟩ hb)
    (fun _ => ⟨w.heap.size, 0, rfl, by simp, fun j p hp => by
      match j, hp with
      | 0, hp =>
        injection hp with hp
        subst hp
        rw [cell_of_row _ _ _ _ t (0, 0) (heap_alloc_new w _)]
        rfl⟩) (htab.below hb)
  rw [flat_one] at h
  exact h.mono fun e w' ⟨he, hw⟩ => ⟨he, hb.trans (hw.mono hb.size)⟩
theorem join_two (A B : Option Addr) (c d : Nat) (xs ys : List Int) (w : World) (hc : xs.length ≤ c) (hd : ys.length ≤ d) (hn : xs.length + ys.length < 2305843009213693952) (hx : Bytes xs) (hy : Bytes ys) (hl : Lies w A xs) (hm : Lies w B ys) (htab : Tabs w) (t : TypeId) :
    Calls Tryd.prog 27 #[.slice (some ⟨w.heap.size, 0, none⟩) 2 2] (w.alloc (.cells #[.slice A xs.length c, .slice B ys.length d] t)) fun e w' => e = .returned (.agg (ints .u8 (digestL (xs ++ ys))).toArray) ∧ Below w.heap.size w w' := by
  have hb : Below w.heap.size w (w.alloc (.cells #[.slice A xs.length c, .slice B ys.length d] t)) := (Below.refl _ w).alloc (Nat.le_refl _) _
  have h := join_any (some ⟨w.heap.size, 0, none⟩) [((A, c, xs) : Part), ((B, d, ys) : Part)] 2 (w.alloc (.cells #[.slice A xs.length c, .slice B ys.length d] t)) (by show 2 ≤ _; decide) (by rw [flat_two, List.length_append]; exact hn)
    (fun p hp => by
      rcases List.mem_cons.1 hp with rfl | hp
      · exact PartOk.below ⟨hx, hc, hl⟩ hb
      · rw [List.mem_singleton.1 hp]; exact PartOk.below ⟨hy, hd, hm⟩ hb)
    (fun _ => ⟨w.heap.size, 0, rfl, by simp, fun j p hp => by
      match j, hp with
      | 0, hp =>
        injection hp with hp
        subst hp
        rw [cell_of_row _ _ _ _ t (0, 0) (heap_alloc_new w _)]
        rfl
      | 1, hp =>
        injection hp with hp
        subst hp
        rw [cell_of_row _ _ _ _ t (0, 0) (heap_alloc_new w _)]
        rfl⟩) (htab.below hb)
  rw [flat_two] at h
  exact h.mono fun e w' ⟨he, hw⟩ => ⟨he, hb.trans (hw.mono hb.size)⟩

set_option maxRecDepth 100000 in
set_option maxHeartbeats 400000 in
theorem sum_any (A : Option Addr) (c : Nat) (xs : List Int) (w : World) (hc : xs.length ≤ c) (hn : xs.length < 2305843009213693952) (hx : Bytes xs) (hl : Lies w A xs) (htab : Tabs w) :
    Calls Tryd.prog 17 #[.slice A xs.length c] w fun e w' => e = .returned (.agg (ints .u8 (digestL xs)).toArray) ∧ Below w.heap.size w w' := by
  have HT := Lib.hid htab
  have HL := Lib.hid hl
  have HX := Lib.hid hx
  have HD32 := Lib.hid (show (digestL xs).length = 32 by rw [length_digestL])
  have hj := fun (W : World) (hB : Below w.heap.size w W) => join_one A c xs W hc hn hx (hl.below hB) (htab.below hB) 37
  obtain ⟨D, hD⟩ : ∃ D, D = digestL xs := ⟨_, rfl⟩
  rw [← hD] at hj HD32
  have HD := Lib.hid (fun _ : Unit => hD)
  clear htab hl hx hD
  go_enter Tryd.func17, Tryd.ntmps17
  go_wp2_with (first
    | (refine wpList_alloc_blk rfl (some 2) rfl _ rfl _ z24 ?_; intro g2 w2 hg2 hb2 hgr; have hB := (Below.refl _ w).grown hgr (Nat.le_refl _) (by simp); clear hgr; try go_frame)
    | (go_at_call 27; refine (hj _ hB).mono ?_; rintro e w5 ⟨rfl, hbw⟩; have hB5 := hB.trans (hbw.mono hB.size); have h25 := hb2.below hbw hb2.lt; clear hbw hj)
    | (refine wpList_store_blk rfl none rfl _ (.tmp 2) (.tmp 5) rfl g2 0 (ints .u8 D) rfl rfl _ _ h25 (by simp [HD32.out]) (by rw [s24, length_ints, HD32.out]) (one_ints _ _) ?_; intro w6 h26 hgr; rw [splice_all _ _ (by simp [HD32.out])] at h26; have hB6 := hB5.grown hgr hB5.size (by intro k hk; injection hk with hk; omega); clear hgr; try go_frame))
  exact bodyPost_ret (v := .agg (ints .u8 D).toArray) (results_blk Tryd.results17 _ _ g2 _ _ _ rfl h26 Tryd.underlying35 rfl (by rw [s24, length_ints, HD32.out])) rfl ⟨by rw [HD.out ()], hB6⟩
end Go.Proofs.YtdgpphihjeffcaaDoor
