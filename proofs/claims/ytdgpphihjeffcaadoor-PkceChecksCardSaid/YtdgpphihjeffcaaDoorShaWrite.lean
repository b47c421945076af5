/- The walk of package sha's Write. -/
import Derived.Test.YtdgpphihjeffcaaDoorShaSmall
import Derived.Test.YtdgpphihjeffcaaDoorShaMath3
import Derived.Test.YtdgpphihjeffcaaDoorKit2
import Derived.Deep.RegionHeld3
namespace Go.Proofs.YtdgpphihjeffcaaDoor
open Go Go.RowKit

theorem Blk.ne_ {w : World} {g g' : Nat} {t t' : TypeId} {cs cs' : List Value} (h : Blk w g t cs) (h' : Blk w g' t' cs') (hne : t ≠ t') : g ≠ g' := by
  rintro rfl
  unfold Blk at h h'
  rw [h] at h'
  injection h' with h'
  injection h' with _ ht _
  exact hne ht
/-- The block g is a Hash that has taken in bs. -/
def HRep (w : World) (g : Nat) (bs : List Int) : Prop := ∃ sum blk, HOk sum blk bs ∧ Blk w g 82 (HC sum blk bs.length)
/-- The program's two tables are there. -/
def Tabs (w : World) : Prop := Blk w 1 115 (ints .u32 rootsL) ∧ Blk w 2 79 (ints .u32 startL)
theorem Tabs.grown {w w' : World} (h : Tabs w) {g : Nat} {cs : List Value} (hb : Blk w g 82 cs) (hg : w.grownBy w' (some g)) : Tabs w' :=
  ⟨h.1.grown hg (by intro e; injection e with e; exact h.1.ne_ hb (by decide) e), h.2.grown hg (by intro e; injection e with e; exact h.2.ne_ hb (by decide) e)⟩
theorem Tabs.below {w w' : World} (h : Tabs w) (hg : Below w.heap.size w w') : Tabs w' := ⟨h.1.below hg h.1.lt, h.2.below hg h.2.lt⟩
def lenOf : Value → Nat
  | .slice _ n _ => n
  | _ => 0
theorem s36 : (Tryd.prog.info? 72).map (·.size) = some 1 := by kernel_rfl
theorem sT26 : (Tryd.prog.info? 5).map (·.size) = some 1 := s5
theorem HC_splice (sum blk : List Int) (n r : Nat) (ds : List Int) (hs : sum.length = 8) (hb : blk.length = 64) (hr : r + ds.length ≤ 64) :
    splice (HC sum blk n) (8 + r) (ints .u8 ds) = HC sum (splice blk r ds) n := by
  have e1 : (HC sum blk n).take (8 + r) = ints .u32 sum ++ ints .u8 (blk.take r) := by
    rw [HC, List.take_append, length_ints, hs, List.take_of_length_le (by simp; omega), show 8 + r - 8 = r by omega, List.take_append_of_le_length (by simp; omega)]
    simp [ints]
  have e2 : (HC sum blk n).drop (8 + r + ds.length) = ints .u8 (blk.drop (r + ds.length)) ++ [.int .u64 (n : Int)] := by
    rw [HC, List.drop_append, length_ints, hs, List.drop_eq_nil_of_le (by simp; omega), show 8 + r + ds.length - 8 = r + ds.length by omega, List.drop_append_of_le_length (by simp; omega)]
    simp [ints]
  rw [splice, length_ints, e1, e2, HC, splice]
  simp [ints]
theorem HC_set_size (sum blk : List Int) (n m : Nat) (hs : sum.length = 8) (hb : blk.length = 64) : (HC sum blk n).set 72 (.int .u64 (m : Int)) = HC sum blk m := by
  rw [HC, List.set_append_right _ _ (by simp [hs]), List.set_append_right _ _ (by simp [hs, hb])]
  simp [HC, hs, hb]
theorem eight (l : List Int) (h : l.length = 8) : ∃ a b c d e f g h : Int, l = [a, b, c, d, e, f, g, h] := by
  match l, h with
  | [a, b, c, d, e, f, g, h], _ => exact ⟨a, b, c, d, e, f, g, h, rfl⟩
/-- The first eight cells of a Hash, written one by one. -/
theorem HC_eight (sum blk : List Int) (n : Nat) (hs : sum.length = 8) (w : World) (g : Nat) (t : TypeId) (hb : Blk w g t (HC sum blk n)) (a0 a1 a2 a3 a4 a5 a6 a7 : Int) :
    Blk ((((((((w.setCell ⟨g, 0, none⟩ (.int .u32 a0)).setCell ⟨g, 1, none⟩ (.int .u32 a1)).setCell ⟨g, 2, none⟩ (.int .u32 a2)).setCell ⟨g, 3, none⟩ (.int .u32 a3)).setCell ⟨g, 4, none⟩ (.int .u32 a4)).setCell ⟨g, 5, none⟩ (.int .u32 a5)).setCell ⟨g, 6, none⟩ (.int .u32 a6)).setCell ⟨g, 7, none⟩ (.int .u32 a7)) g t (HC [a0, a1, a2, a3, a4, a5, a6, a7] blk n) ∧
    w.grownBy ((((((((w.setCell ⟨g, 0, none⟩ (.int .u32 a0)).setCell ⟨g, 1, none⟩ (.int .u32 a1)).setCell ⟨g, 2, none⟩ (.int .u32 a2)).setCell ⟨g, 3, none⟩ (.int .u32 a3)).setCell ⟨g, 4, none⟩ (.int .u32 a4)).setCell ⟨g, 5, none⟩ (.int .u32 a5)).setCell ⟨g, 6, none⟩ (.int .u32 a6)).setCell ⟨g, 7, none⟩ (.int .u32 a7)) (some g) := by
  obtain ⟨s0, s1, s2, s3, s4, s5, s6, s7, rfl⟩ := eight sum hs
  refine ⟨?_, ((((((((grownBy_setCell w g 0 _).trans (grownBy_setCell _ g 1 _)).trans (grownBy_setCell _ g 2 _)).trans (grownBy_setCell _ g 3 _)).trans (grownBy_setCell _ g 4 _)).trans (grownBy_setCell _ g 5 _)).trans (grownBy_setCell _ g 6 _)).trans (grownBy_setCell _ g 7 _))⟩
  have := (((((((hb.setCell 0 (.int .u32 a0)).setCell 1 (.int .u32 a1)).setCell 2 (.int .u32 a2)).setCell 3 (.int .u32 a3)).setCell 4 (.int .u32 a4)).setCell 5 (.int .u32 a5)).setCell 6 (.int .u32 a6)).setCell 7 (.int .u32 a7)
  exact this
theorem HC_cell (sum blk : List Int) (n : Nat) (hs : sum.length = 8) (w : World) (g : Nat) (t : TypeId) (hb : Blk w g t (HC sum blk n)) (i : Nat) (hi : i < 8) : w.cell? ⟨g, i, none⟩ = some (.int .u32 (sum.getD i 0)) := by
  rw [hb.cell]
  have := HC_sum sum blk n i _ (get_ints .u32 sum i (by omega))
  simpa using this
/-- What holds while the region 'h.sum = mix(h.soFar(), h.block)' goes on. -/
def SS (g : Nat) (cs : List Value) (base W : World) : Prop := Blk W g 82 cs ∧ Tabs W ∧ base.grownBy W (some g)
theorem SS.drew {g : Nat} {cs : List Value} {base W : World} (h : SS g cs base W) : SS g cs base W.drew := ⟨h.1.drew, h.2.1, grownBy_drew h.2.2⟩
theorem SS.below {g : Nat} {cs : List Value} {base W W' : World} (h : SS g cs base W) (hb : Below W.heap.size W W') : SS g cs base W' :=
  ⟨h.1.below hb h.1.lt, h.2.1.below hb, h.2.2.trans (grownBy_of_below hb _)⟩
theorem HC_set_sum (sum sum' blk : List Int) (n : Nat) (hs : sum.length = 8) (hs' : sum'.length = 8) : splice (HC sum blk n) 0 (ints .u32 sum') = HC sum' blk n := by
  simp [splice, HC, hs, hs', ints]

set_option maxRecDepth 100000 in
set_option maxHeartbeats 400000 in
theorem write_any (g : Nat) (bs xs : List Int) (A : Option Addr) (c : Nat) (w : World) (hx : Bytes xs) (hc : xs.length ≤ c) (hn : bs.length + xs.length < 2305843009213693952)
    (hrep : HRep w g bs) (hsrc : Src w g A xs) (htab : Tabs w) :
    Calls Tryd.prog 41 #[.pointer (some ⟨g, 0, none⟩), .slice A xs.length c] w fun e w' => e = .returned (.tuple #[]) ∧ HRep w' g (bs ++ xs) ∧ w.grownBy w' (some g) := by
  obtain ⟨sum0, blk0, hok0, hb0⟩ := hrep
  have HT0 := Lib.hid htab
  have HOK0 := Lib.hid hok0
  have HX := Lib.hid hx
  clear hx htab hok0
  go_enter Tryd.func41, Tryd.ntmps41
  go_wp2_with fail
  go_loopw [1] (fun v wr => ∃ (pre post sum blk : List Int) (A' : Option Addr) (c' : Nat), xs = pre ++ post ∧ v = .slice A' post.length c' ∧ post.length ≤ c' ∧ HOk sum blk (bs ++ pre) ∧ Blk wr g 82 (HC sum blk (bs ++ pre).length) ∧ Src wr g A' post ∧ w.grownBy wr (some g)) (fun v _ => lenOf v)
  case atStart => exact ⟨[], xs, sum0, blk0, A, c, rfl, rfl, hc, by simpa using HOK0.out, by simpa using hb0, hsrc, grownBy_refl _ _⟩
  case round =>
    have HB0 := Lib.hid hb0
    clear hb0 HOK0 hsrc
    obtain ⟨pre, post, sum, blk, A', c', hxs, rfl, hc', hok, hb, hsrc, hgr⟩ := hrel
    have HT : Hid (Tabs wr) := Lib.hid (HT0.out.grown HB0.out hgr)
    have hlx : bs.length + pre.length + post.length < 2305843009213693952 := by rw [hxs, List.length_append] at hn; omega
    have HXS := Lib.hid hxs
    have HBY : Hid (Bytes post) := Lib.hid (Bytes.right (l := pre) (by rw [← hxs]; exact HX.out))
    clear hxs
    obtain ⟨acc, hacc⟩ : ∃ acc, acc = bs ++ pre := ⟨_, rfl⟩
    have hla : acc.length + post.length < 2305843009213693952 := by rw [hacc, List.length_append]; exact hlx
    rw [← hacc] at hok hb
    have HACC := Lib.hid hacc
    clear hacc hlx
    obtain ⟨n, hn'⟩ : ∃ n, n = acc.length := ⟨_, rfl⟩
    obtain ⟨r, hr⟩ : ∃ r, r = acc.length % 64 := ⟨_, rfl⟩
    obtain ⟨m, hm⟩ : ∃ m, m = post.length := ⟨_, rfl⟩
    have hr64 : r < 64 := by omega
    have hrn : r ≤ n := by omega
    have hnb : n + m < 2305843009213693952 := by omega
    rw [← hm] at hc' ⊢
    by_cases hm0 : 0 < m
    · obtain ⟨q, hq⟩ : ∃ q, q = Nat.min m (64 - r) := ⟨_, rfl⟩
      have hq0 : 0 < q := by simp only [Nat.min_def] at hq; split at hq <;> omega
      have hqm : q ≤ m := by simp only [Nat.min_def] at hq; split at hq <;> omega
      have hqr : r + q ≤ 64 := by simp only [Nat.min_def] at hq; split at hq <;> omega
      have HDL : Hid ((post.take q).length = q) := Lib.hid (by rw [List.length_take]; omega)
      have hwait := fun (w' : World) (h : Blk w' g 82 (HC sum blk acc.length)) => waiting_any g sum blk acc.length w' hok.1 hok.2.2.1 (by omega) h
      rw [← hr] at hwait
      have HOK := Lib.hid hok
      have HN := Lib.hid hn'
      have HR := Lib.hid hr
      have HM := Lib.hid hm
      have HQ := Lib.hid hq
      clear hok hn' hr hm hq hla hn
      go_wp2_with fail
      have hcopy := hsrc.src q
      have hsl := run_sliceAt_from (P := Tryd.prog) 80 5 64 Tryd.underlying80 s5 g 8 r hr64 .i64
      go_region_law (first
        | (refine step_copy_blk (w := wr.drew) rfl (.tmp 15) (.tmp 16) _ _ rfl 5 Tryd.underlying37 s5 (some ⟨g, 8 + r, none⟩) A' (64 - r) (64 - r) m c' (by simp [Act.eval, Act.put]) (by simp [Act.eval, Act.put]) g (8 + r) _ _ hb (ints .u8 (post.take q)) q (by rw [length_ints, HDL.out]) HQ.out (fun hp => ⟨rfl, hcopy hp⟩) (by rw [length_HC, HOK.out.1, HOK.out.2.2.1, length_ints, HDL.out]; omega) (one_ints _ _) ?_; intro w2 hb2 hgr2)
        | (go_simp; go_at_call 53; refine (hwait wr.drew hb).mono ?_; rintro e w' ⟨rfl, rfl⟩))
      replace hgr := (grownBy_drew hgr).trans hgr2
      have hsrc2 := (show Src wr.drew g A' post from hsrc).grown hgr2 (.inr rfl)
      have HT2 : Hid (Tabs w2) := Lib.hid ((show Tabs wr.drew from HT.out).grown (Blk.drew hb) hgr2)
      have HB2 : Blk w2 g 82 (HC sum (splice blk r (post.take q)) acc.length) := by
        rw [← HC_splice _ _ _ _ _ HOK.out.1 HOK.out.2.2.1 (by rw [HDL.out]; exact hqr)]; exact hb2
      have hs8 := HOK.out.1
      have hb64 : (splice blk r (post.take q)).length = 64 := by rw [HR.out]; exact (splice_blk HOK.out _ (by rw [HDL.out, ← HR.out]; exact hqr)).2
      obtain ⟨blk2, hblk2⟩ : ∃ b, b = splice blk r (post.take q) := ⟨_, rfl⟩
      rw [← hblk2] at HB2 hb64
      have hwait2 := fun (w' : World) (h : Blk w' g 82 (HC sum blk2 acc.length)) => waiting_any g sum blk2 acc.length w' hs8 hb64 (by rw [← HN.out]; omega) h
      rw [← HR.out] at hwait2
      have HBK := Lib.hid hblk2
      have HS8 := Lib.hid hs8
      have HB64 := Lib.hid hb64
      clear hb hb2 hgr2 hsrc hwait hcopy hsl hblk2 hs8 hb64
      by_cases hfull : r + q = 64
      · go_wp2_with (go_at_call 53; refine (hwait2 _ HB2).mono ?_; rintro e w' ⟨rfl, rfl⟩)
        have hst : (if acc.length < 64 then startL else sum) = absorb acc (acc.length / 64) := HOK.out.soFar
        obtain ⟨st, hstd⟩ : ∃ st, st = absorb acc (acc.length / 64) := ⟨_, rfl⟩
        have cs : ∀ W, SS g (HC sum blk2 acc.length) w2 W → Calls Tryd.prog 55 #[.pointer (some ⟨g, 0, none⟩)] W fun e w' => e = .returned (.agg (ints .u32 st).toArray) ∧ Below W.heap.size W w' := fun W h => by
          have := soFar_any g sum blk2 acc.length W HS8.out HB64.out (by rw [← HN.out]; omega) h.1 h.2.1.2
          rw [hst, ← hstd] at this; exact this
        obtain ⟨M, hM⟩ : ∃ M, M = mixL st blk2 := ⟨_, rfl⟩
        have hM8 : M.length = 8 := by rw [hM, length_mixL, hstd, length_absorb]
        have hby2 : Bytes blk2 := by rw [HBK.out]; exact HOK.out.2.2.2.1.splice (HBY.out.take q) _
        have cm : ∀ W, SS g (HC sum blk2 acc.length) w2 W → Calls Tryd.prog 54 #[.agg (ints .u32 st).toArray, .agg (ints .u8 blk2).toArray] W fun e w' => e = .returned (.agg (ints .u32 M).toArray) ∧ Below W.heap.size W w' := fun W h => by
          have := mix_any st blk2 W (by rw [hstd, length_absorb]) (by rw [hstd]; exact absorb_bd _ _) HB64.out hby2 h.2.1.1
          rw [← hM] at this; exact this
        have hstore : ∀ W, SS g (HC sum blk2 acc.length) w2 W → (storeCells ⟨g, 0, none⟩ (ints .u32 M) 0).run Tryd.prog W = .ok () (W.setCells g 0 (ints .u32 M)) := fun W h => by
          have := run_storeCells_cells (P := Tryd.prog) g 0 (ints .u32 M) 0 W (fun j hj => by simpa using ((h.1.there 0 8 (by rw [length_HC, HS8.out, HB64.out]; omega)) j (by rw [length_ints, hM8] at hj; exact hj)).1) (fun j hj => by simpa using ((h.1.there 0 8 (by rw [length_HC, HS8.out, HB64.out]; omega)) j (by rw [length_ints, hM8] at hj; exact hj)).2) (one_ints _ _)
          simpa using this
        have hSS : SS g (HC sum blk2 acc.length) w2 w2 := ⟨HB2, HT2.out, grownBy_refl _ _⟩
        have u35 := Tryd.underlying80
        have hi35 : (Tryd.prog.info? 80).map (·.size) = some (ints .u8 blk2).length := by rw [s35, length_ints, HB64.out]
        have HST := Lib.hid hstd
        have HMM := Lib.hid hM
        have HBY2 := Lib.hid hby2
        clear hst hstd hM hby2
        have HR8 := fun (W : World) (h : SS g (HC sum blk2 acc.length) w2 W) => h.1.range 8 _ (HC_blk sum blk2 acc.length HS8.out)
        go_region_held3 (fun W => W.rangeAt g 8 (ints .u8 blk2))
          (first | exact HR8 _ hSS | exact HR8 _ hSS.drew | exact HR8 _ hS3 | exact HR8 _ hS4 | exact World.rangeAt_setCells_apart (HR8 _ hS4) g 0 _ (Or.inr (Or.inr (by simp [hM8]))))
          (first
            | (go_at_call 55; refine (cs _ hSS.drew).mono ?_; rintro e w3 ⟨rfl, hb3⟩; have hS3 := hSS.drew.below hb3)
            | (go_at_call 54; refine (cm _ hS3).mono ?_; rintro e w4 ⟨rfl, hb4⟩; have hS4 := hS3.below hb4))
        have h5 := setCells_heap g _ (ints .u32 M) 0 _ w4 hS4.1 (by rw [length_HC, HS8.out, HB64.out, length_ints, hM8]; omega)
        rw [HC_set_sum _ _ _ _ HS8.out hM8] at h5
        have hT5 := hS4.2.1.grown hS4.1 h5.2
        have hg5 := hgr.trans (hS4.2.2.trans h5.2)
        have hsrc5 := hsrc2.grown (hS4.2.2.trans h5.2) (.inr rfl)
        obtain ⟨hB5, _⟩ := h5
        have hw72 := fun (W : World) (h : Blk W g 82 (HC M blk2 acc.length)) => (h.cell 72).trans (HC_size M blk2 acc.length hM8 HB64.out)
        have HM8 := Lib.hid hM8
        generalize w4.setCells g 0 (ints .u32 M) = w5 at *
        clear cs cm hstore hSS hi35 u35 HR8 hS3 hS4 hb3 hb4 hM8
        rw [← HN.out] at hB5 hw72
        have hok5 : HOk M blk2 (acc ++ post.take q) := by rw [HMM.out, HST.out, HBK.out, HR.out]; exact HOK.out.full _ (HBY.out.take q) (by rw [HDL.out, ← HR.out]; exact hfull)
        have hnl : n + q = (acc ++ post.take q).length := by rw [List.length_append, HDL.out, HN.out]
        have hsl2 := run_sliceAt_rest (P := Tryd.prog) 37 5 Tryd.underlying37 s5 A' m c' q hqm .i64
        obtain ⟨A2, hA2⟩ : ∃ A2, A2 = (if c' = q then A' else A'.map (·.add q)) := ⟨_, rfl⟩
        rw [← hA2] at hsl2
        have HA2 := Lib.hid hA2
        have HOK5 := Lib.hid hok5
        have HNL := Lib.hid hnl
        clear hA2 hok5 hnl
        go_wp2_with (first
          | (refine wpList_load_cell rfl (some 36) rfl _ (.tmp 35) rfl g 72 rfl _ _ hB5 (.int .u64 (n : Int)) (HC_size _ _ _ HM8.out HB64.out) .u64 Tryd.underlying72 ?_)
          | (refine wpList_store_cell rfl none rfl _ (.tmp 41) (.tmp 39) rfl g 72 (.int .u64 ((n : Int) + (q : Int))) rfl rfl rfl _ _ hB5 (by rw [length_HC, HM8.out, HB64.out]; omega) s36 ?_; intro w6 hb6 hgr6))
        have hb6' : Blk w6 g 82 (HC M blk2 (acc ++ post.take q).length) := by
          have := HC_set_size M blk2 n (n + q) HM8.out HB64.out
          rw [Int.natCast_add] at this
          rw [this] at hb6
          rw [← HNL.out]; exact hb6
        have hsrc6 : Src w6 g A2 (post.drop q) := by
          have h1 := hsrc5.grown hgr6 (.inr rfl)
          rw [HA2.out]
          by_cases hcq : c' = q
          · rw [List.drop_eq_nil_of_le (by rw [← HM.out]; omega)]; exact Src.nil _ _ _
          · rw [if_neg hcq]; exact h1.drop q
        go_roundw
        case rel =>
          refine ⟨pre ++ post.take q, post.drop q, M, blk2, A2, c' - q, ?_, ?_, ?_, ?_, ?_, hsrc6, hg5.trans hgr6⟩
          · rw [HXS.out, List.append_assoc, List.take_append_drop]
          · rw [List.length_drop, HM.out]
          · rw [List.length_drop, ← HM.out]; omega
          · rw [← List.append_assoc, ← HACC.out]; exact HOK5.out
          · rw [← List.append_assoc, ← HACC.out]; exact hb6'
        case measure => simp [lenOf]; omega
      · have hB5 : Blk w2 g 82 (HC sum blk2 n) := by rw [HN.out]; exact HB2
        have HM8 := HS8
        have hsrc5 := hsrc2
        have hg5 := hgr
        have hok5 : HOk sum blk2 (acc ++ post.take q) := by rw [HBK.out, HR.out]; exact HOK.out.part _ (HBY.out.take q) (by rw [HDL.out, ← HR.out]; omega)
        have hnl : n + q = (acc ++ post.take q).length := by rw [List.length_append, HDL.out, HN.out]
        have hsl2 := run_sliceAt_rest (P := Tryd.prog) 37 5 Tryd.underlying37 s5 A' m c' q hqm .i64
        obtain ⟨A2, hA2⟩ : ∃ A2, A2 = (if c' = q then A' else A'.map (·.add q)) := ⟨_, rfl⟩
        rw [← hA2] at hsl2
        have HA2 := Lib.hid hA2
        have HOK5 := Lib.hid hok5
        have HNL := Lib.hid hnl
        clear hA2 hok5 hnl
        go_wp2_with (first
          | (go_at_call 53; refine (hwait2 _ HB2).mono ?_; rintro e w' ⟨rfl, rfl⟩)
          | (refine wpList_load_cell rfl (some 36) rfl _ (.tmp 35) rfl g 72 rfl _ _ hB5 (.int .u64 (n : Int)) (HC_size _ _ _ HM8.out HB64.out) .u64 Tryd.underlying72 ?_)
          | (refine wpList_store_cell rfl none rfl _ (.tmp 41) (.tmp 39) rfl g 72 (.int .u64 ((n : Int) + (q : Int))) rfl rfl rfl _ _ hB5 (by rw [length_HC, HM8.out, HB64.out]; omega) s36 ?_; intro w6 hb6 hgr6))
        have hb6' : Blk w6 g 82 (HC sum blk2 (acc ++ post.take q).length) := by
          have := HC_set_size sum blk2 n (n + q) HM8.out HB64.out
          rw [Int.natCast_add] at this
          rw [this] at hb6
          rw [← HNL.out]; exact hb6
        have hsrc6 : Src w6 g A2 (post.drop q) := by
          have h1 := hsrc5.grown hgr6 (.inr rfl)
          rw [HA2.out]
          by_cases hcq : c' = q
          · rw [List.drop_eq_nil_of_le (by rw [← HM.out]; omega)]; exact Src.nil _ _ _
          · rw [if_neg hcq]; exact h1.drop q
        go_roundw
        case rel =>
          refine ⟨pre ++ post.take q, post.drop q, sum, blk2, A2, c' - q, ?_, ?_, ?_, ?_, ?_, hsrc6, hg5.trans hgr6⟩
          · rw [HXS.out, List.append_assoc, List.take_append_drop]
          · rw [List.length_drop, HM.out]
          · rw [List.length_drop, ← HM.out]; omega
          · rw [← List.append_assoc, ← HACC.out]; exact HOK5.out
          · rw [← List.append_assoc, ← HACC.out]; exact hb6'
        case measure => simp [lenOf]; omega
    · have HP : Hid (post = []) := Lib.hid (List.eq_nil_of_length_eq_zero (by omega))
      go_wp2_with fail
      go_end0
      refine ⟨rfl, ⟨sum, blk, ?_, ?_⟩, hgr⟩
      · rw [HXS.out, HP.out, List.append_nil, ← HACC.out]; exact hok
      · rw [HXS.out, HP.out, List.append_nil, ← HACC.out]; exact hb
end Go.Proofs.YtdgpphihjeffcaaDoor
