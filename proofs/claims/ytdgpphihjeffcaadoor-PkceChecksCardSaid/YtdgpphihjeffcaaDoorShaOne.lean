/- The walk of the reference's sum behind a block. -/
import Derived.Test.YtdgpphihjeffcaaDoorShaRefMath3
import Derived.Test.YtdgpphihjeffcaaDoorShaRef
import Derived.Test.YtdgpphihjeffcaaDoorShaTabs
import Derived.BigQuiet
import Derived.StillTailTactics
import Derived.Deep.RegionHeld3
import Derived.Deep.AppendLies
namespace Go.Proofs.YtdgpphihjeffcaaDoor
open Go Go.RowKit
theorem info33 : (Tryd.prog.info? 52).map (fun i => (i.zero, i.size, i.bytes)) = some (some (.int .u32 0), 1, 4) := by kernel_rfl
theorem wordR_bd (b : List Int) (t : Nat) : ∀ i, 0 ≤ wordR b t i ∧ wordR b t i < 4294967296
  | 0 => by rw [wordR]; omega
  | i + 1 => by rw [wordR]; omega
theorem wordsR_bd (b : List Int) : ∀ n i, 0 ≤ (wordsR b n).getD i 0 ∧ (wordsR b n).getD i 0 < 4294967296
  | 0, i => by simp [wordsR]
  | n + 1, i => by
    rw [wordsR, List.getD_eq_getElem?_getD]
    by_cases h : i < n
    · rw [List.getElem?_append_left (by rw [length_wordsR]; exact h), ← List.getD_eq_getElem?_getD]; exact wordsR_bd b n i
    · by_cases h2 : i = n
      · subst h2
        rw [List.getElem?_append_right (by rw [length_wordsR]; omega), length_wordsR, Nat.sub_self]
        show 0 ≤ (if i < 16 then wordR b i 4 else nextw (wordsR b i) i) ∧ _ < _
        by_cases h16 : i < 16
        · simp only [List.getElem?_cons_zero, Option.getD_some, if_pos h16]; exact wordR_bd b i 4
        · simp only [List.getElem?_cons_zero, Option.getD_some, if_neg h16]; exact nextw_bd _ _
      · rw [List.getElem?_eq_none (by simp; omega)]; simp
theorem lt_of_cellO {w : World} {a : Addr} {v : Value} (h : w.cell? a = some v) : a.block < w.heap.size := by
  rcases Nat.lt_or_ge a.block w.heap.size with h' | h'
  · exact h'
  · simp [World.cell?, Array.getElem?_eq_none h'] at h
theorem rnds_ok (W s : List Int) (hs : s.length = 8) (hsd : ∀ i, 0 ≤ s.getD i 0 ∧ s.getD i 0 < 4294967296) : ∀ k, (rnds W s k).length = 8 ∧ ∀ i, 0 ≤ (rnds W s k).getD i 0 ∧ (rnds W s k).getD i 0 < 4294967296
  | 0 => ⟨hs, hsd⟩
  | k + 1 => by
    obtain ⟨hl, hd⟩ := rnds_ok W s hs hsd k
    rw [rnds]
    obtain ⟨a, b, c, d, e, f, g, h, hR⟩ := eight _ hl
    rw [hR] at hd ⊢
    refine ⟨rfl, fun i => ?_⟩
    have h0 := hd 0; have h1 := hd 1; have h2 := hd 2; have h3 := hd 3; have h4 := hd 4; have h5 := hd 5; have h6 := hd 6; have h7 := hd 7
    simp only [List.getD_cons_zero, List.getD_cons_succ] at h0 h1 h2 h3 h4 h5 h6 h7
    simp only [rnd]
    match i with
    | 0 => simp only [List.getD_cons_zero]; omega
    | 1 => exact h0
    | 2 => exact h1
    | 3 => exact h2
    | 4 => simp only [List.getD_cons_zero, List.getD_cons_succ]; omega
    | 5 => exact h4
    | 6 => exact h5
    | 7 => exact h6
    | i + 8 => simp
set_option maxRecDepth 100000 in
set_option maxHeartbeats 4000000 in
theorem refOne_any (s b : List Int) (gS cS : Nat) (bs : ByteArray) (w : World) (hs : s.length = 8) (hsd : ∀ i, 0 ≤ s.getD i 0 ∧ s.getD i 0 < 4294967296) (hbl : bs.size = 64) (hb : ∀ i (h : i < bs.size), ((bs[i]'h).toNat : Int) = b.getD i 0) (hbd : Bytes b)
    (hS : ∀ j v, (ints .u32 s)[j]? = some v → w.cell? ⟨gS, j, none⟩ = some v) (hgS : gS < w.heap.size) :
    Calls Tryd.prog 39 #[.slice (some ⟨gS, 0, none⟩) 8 cS, .string bs] w fun e w' => ∃ g c, e = .returned (.slice (some ⟨g, 0, none⟩) 8 c) ∧ w.heap.size ≤ g ∧ (∀ j v, (ints .u32 (mixL s b))[j]? = some v → w'.cell? ⟨g, j, none⟩ = some v) ∧ Below w.heap.size w w' := by
  have HS := Lib.hid hs
  have HSD := Lib.hid hsd
  have HBL := Lib.hid hbl
  have HB := Lib.hid hb
  have HBD := Lib.hid hbd
  have HSC := Lib.hid hS
  clear hs hsd hbl hb hbd hS
  go_enter Tryd.func39, Tryd.ntmps39
  go_wp2_with (first
    | (go_at_call 48; refine (refWords_any _).mono ?_; rintro e w1 ⟨gK, rfl, hgK, hbK, hgr1⟩; have hB1 := (Below.refl _ w).grown hgr1 (Nat.le_refl _) (by simp); clear hgr1))
  obtain ⟨i0, hi0, hz0, hz1, hz2⟩ := info_parts info33
  obtain ⟨B, hBd⟩ : ∃ B, B = w1.heap.size := ⟨_, rfl⟩
  have hown0 : w1.ownsRow B 52 1 (.slice none 0 0) 0 [] := ⟨by decide, Or.inl ⟨rfl, rfl⟩⟩
  have hBel0 : Below B w1 w1 := Below.refl _ _
  have HBDD := Lib.hid hBd
  have HBK := Lib.hid hbK
  have hgK : gK < B := by rw [hBd]; exact hbK.lt
  clear hBd hbK
  go_loopw [6, 7] (fun v i wr => ∃ k : Nat, k ≤ 64 ∧ i = .int .i64 k ∧ wr.ownsRow B 52 1 v k (ints .u32 (wordsR b k)) ∧ Below B w1 wr) (fun _ i _ => 64 - (intOf i).toNat)
  case atStart => exact ⟨0, by omega, rfl, hown0, hBel0⟩
  case round =>
    clear hown0 hBel0
    obtain ⟨k, hk, rfl, hown, hbel⟩ := hrel
    by_cases hlt : k < 64
    · by_cases h16 : k < 16
      · have HOWN := Lib.hid hown
        have HBEL := Lib.hid hbel
        clear hown hbel
        go_wp2_with fail
        rw [show decide ((k : Int) < 64) = true from decide_eq_true (by omega), show decide ((k : Int) < 16) = true from decide_eq_true (by omega)]
        go_loopw [8, 9] (fun x i wr' => ∃ j : Nat, j ≤ 4 ∧ x = .int .u32 (wordR b k j) ∧ i = .int .i64 j ∧ wr' = wr) (fun _ i _ => 4 - (intOf i).toNat)
        case atStart => exact ⟨0, by omega, rfl, rfl, rfl⟩
        case round =>
          obtain ⟨j, hj, rfl, rfl, rfl⟩ := hrel
          by_cases hj4 : j < 4
          · have hbsz := HBL.out
            have gx := HB.out (4 * k + j) (by omega)
            have gy := HBD.out (4 * k + j)
            have HWR : Hid (∀ y, y = b.getD (4 * k + j) 0 → wordR b k (j + 1) = (wordR b k j * 256 + y) % 4294967296) := Lib.hid (fun y hy => by rw [wordR, hy])
            obtain ⟨y, hy⟩ : ∃ y, y = b.getD (4 * k + j) 0 := ⟨_, rfl⟩
            rw [← hy] at gx gy
            have HY := Lib.hid hy
            clear hy
            obtain ⟨z, hz⟩ : ∃ z, z = wordR b k j := ⟨_, rfl⟩
            rw [← hz]
            rw [← hz] at HWR
            clear hz
            go_wp2_with fail
            go_roundw
            case rel =>
              refine ⟨j + 1, by omega, ?_, by go_num, trivial⟩
              rw [HWR.out y HY.out]
              exact congrArg (Value.int .u32) (by omega)
            case measure => simp [intOf]; omega
          · have hj4' : j = 4 := by omega
            subst hj4'
            have hB : B ≤ wr.heap.size := by have := HBEL.out.size; rw [← HBDD.out] at this; exact this
            have HTK : Hid (∀ _ : Unit, ints .u32 (wordsR b k) ++ [.int .u32 (wordR b k 4)] = ints .u32 (wordsR b (k + 1))) := Lib.hid (fun _ => by
              rw [wordsR, if_pos h16, ints_append]; rfl)
            have HBEL2 : Hid (Below B w1 (wr.alloc (.cells #[.int .u32 (wordR b k 4)] 52))) := Lib.hid (HBEL.out.alloc hB _)
            obtain ⟨x, hx⟩ : ∃ x, x = wordR b k 4 := ⟨_, rfl⟩
            rw [← hx] at HTK HBEL2 ⊢
            clear hx
            go_wp2_with (first
              | (at_builtin; refine wpList_append_own _ rfl (.tmp 78) (.tmp 80) 73 rfl B 52 i0 (.int .u32 0) 1 4 Tryd.underlying73 hi0 hz0 hz1 hz2 rfl (by decide) _ k _ rfl (HOWN.out.alloc _) ⟨wr.heap.size, 0, none⟩ 1 1 [.int .u32 x] rfl rfl ?c1 ?c2 ?c3 ?c4 ?c5 ?_))
            case c1 => exact cell_one_new _ _ _
            case c2 => intro u hu; rw [List.mem_singleton.1 hu]; rfl
            case c3 => unfold maxLen; omega
            case c4 => omega
            case c5 => simp; omega
            intro v' w' hown' hgr _
            have HW : Hid (w'.ownsRow B 52 1 v' (k + 1) (ints .u32 (wordsR b (k + 1))) ∧ Below B w1 w') := Lib.hid ⟨by rw [← HTK.out ()]; exact hown', HBEL2.out.grown hgr (by simp; omega) (own_ge HOWN.out)⟩
            clear hown' hgr
            go_wp2_with fail
            go_roundw
            case rel => exact ⟨k + 1, by omega, by go_num, HW.out.1, HW.out.2⟩
            case measure => simp [intOf]; omega
      · obtain ⟨g, cap, rfl⟩ : ∃ g cap, u6 = .slice (some ⟨g, 0, none⟩) k cap := by
          rcases hown.2 with ⟨_, h0⟩ | ⟨g, cap, cur, h0, _⟩
          · omega
          · exact ⟨g, cap, h0⟩
        have hcell : ∀ i, i < k → wr.cell? ⟨g, i, none⟩ = some (.int .u32 ((wordsR b k).getD i 0)) := fun i hi => by
          rw [hown.cellAt i (by omega)]; exact get_ints .u32 (wordsR b k) i (by rw [length_wordsR]; exact hi)
        have gp := hcell (k - 2) (by omega)
        have gq := hcell (k - 15) (by omega)
        have gr := hcell (k - 7) (by omega)
        have gs := hcell (k - 16) (by omega)
        have HOWN := Lib.hid hown
        have HBEL := Lib.hid hbel
        clear hown hbel hcell
        have bd : ∀ i, i < k → 0 ≤ (wordsR b k).getD i 0 ∧ (wordsR b k).getD i 0 < 4294967296 := fun i hi => wordsR_bd b k i
        obtain ⟨hp0, hp1⟩ := bd (k - 2) (by omega)
        obtain ⟨hq0, hq1⟩ := bd (k - 15) (by omega)
        obtain ⟨hr0, hr1⟩ := bd (k - 7) (by omega)
        obtain ⟨hs0, hs1⟩ := bd (k - 16) (by omega)
        clear bd
        have HTK : Hid (ints .u32 (wordsR b k) ++ [.int .u32 (nextw (wordsR b k) k)] = ints .u32 (wordsR b (k + 1))) := Lib.hid (by
          rw [wordsR, if_neg h16, ints_append]; rfl)
        have hnx : nextw (wordsR b k) k = (sig1 ((wordsR b k).getD (k - 2) 0) + (wordsR b k).getD (k - 7) 0 + sig0 ((wordsR b k).getD (k - 15) 0) + (wordsR b k).getD (k - 16) 0) % 4294967296 := rfl
        rw [hnx] at HTK
        obtain ⟨p, hp⟩ : ∃ x, x = (wordsR b k).getD (k - 2) 0 := ⟨_, rfl⟩
        obtain ⟨q, hq⟩ : ∃ x, x = (wordsR b k).getD (k - 15) 0 := ⟨_, rfl⟩
        obtain ⟨r, hr⟩ : ∃ x, x = (wordsR b k).getD (k - 7) 0 := ⟨_, rfl⟩
        obtain ⟨v, hv⟩ : ∃ x, x = (wordsR b k).getD (k - 16) 0 := ⟨_, rfl⟩
        rw [← hp] at hp0 hp1 gp HTK
        rw [← hq] at hq0 hq1 gq HTK
        rw [← hr] at hr0 hr1 gr HTK
        rw [← hv] at hs0 hs1 gs HTK
        clear hp hq hr hv hnx
        have cp17 : ∀ w, Calls Tryd.prog 49 #[.int .u32 p, .int .u64 17] w (fun e w' => e = .returned (.int .u32 (rotr p 17)) ∧ w = w') := fun w => refTurn_any p 17 w hp0 hp1 (by omega) (by omega)
        have cp19 : ∀ w, Calls Tryd.prog 49 #[.int .u32 p, .int .u64 19] w (fun e w' => e = .returned (.int .u32 (rotr p 19)) ∧ w = w') := fun w => refTurn_any p 19 w hp0 hp1 (by omega) (by omega)
        have cq7 : ∀ w, Calls Tryd.prog 49 #[.int .u32 q, .int .u64 7] w (fun e w' => e = .returned (.int .u32 (rotr q 7)) ∧ w = w') := fun w => refTurn_any q 7 w hq0 hq1 (by omega) (by omega)
        have cq18 : ∀ w, Calls Tryd.prog 49 #[.int .u32 q, .int .u64 18] w (fun e w' => e = .returned (.int .u32 (rotr q 18)) ∧ w = w') := fun w => refTurn_any q 18 w hq0 hq1 (by omega) (by omega)
        have dp17 := fun w => (cp17 w).mono fun _ _ (hh : _ ∧ _) => (⟨hh.1, hh.2.symm⟩ : _ ∧ _)
        have dp19 := fun w => (cp19 w).mono fun _ _ (hh : _ ∧ _) => (⟨hh.1, hh.2.symm⟩ : _ ∧ _)
        have dq7 := fun w => (cq7 w).mono fun _ _ (hh : _ ∧ _) => (⟨hh.1, hh.2.symm⟩ : _ ∧ _)
        have dq18 := fun w => (cq18 w).mono fun _ _ (hh : _ ∧ _) => (⟨hh.1, hh.2.symm⟩ : _ ∧ _)
        go_wp2_with fail
        go_quiet ((go_at_call 49; first | (with_reducible exact Calls.quiet_of_same (dp17 _)) | (with_reducible exact Calls.quiet_of_same (dp19 _)) | (with_reducible exact Calls.quiet_of_same (dq7 _)) | (with_reducible exact Calls.quiet_of_same (dq18 _))))
        clear cp17 cp19 cq7 cq18 dp17 dp19 dq7 dq18 gp gq gr gs
        have HOWN2 : Hid ((wr.drewN nq).ownsRow B 52 1 (.slice (some ⟨g, 0, none⟩) k cap) k (ints .u32 (wordsR b k))) := Lib.hid HOWN.out
        have HBEL3 : Hid (Below B w1 (wr.drewN nq)) := Lib.hid (below_drewN HBEL.out nq)
        clear HOWN HBEL
        generalize wr.drewN nq = wq at *
        have hB : B ≤ wq.heap.size := by have := HBEL3.out.size; rw [← HBDD.out] at this; exact this
        have hval : (((bits .xor .u32 (bits .xor .u32 (rotr p 17) (rotr p 19)) (p / 1024) + r + bits .xor .u32 (bits .xor .u32 (rotr q 7) (rotr q 18)) (q / 8)) % 4294967296 + v) % 4294967296) = (sig1 p + r + sig0 q + v) % 4294967296 := by rw [sig1, sig0]; omega
        rw [hval]
        clear hval
        obtain ⟨x, hx⟩ : ∃ x, x = (sig1 p + r + sig0 q + v) % 4294967296 := ⟨_, rfl⟩
        rw [← hx] at HTK ⊢
        clear hx
        have HBEL2 : Hid (Below B w1 (wq.alloc (.cells #[.int .u32 x] 52))) := Lib.hid (HBEL3.out.alloc hB _)
        go_wp2_with (first
          | (at_builtin; refine wpList_append_own _ rfl (.tmp 78) (.tmp 80) 73 rfl B 52 i0 (.int .u32 0) 1 4 Tryd.underlying73 hi0 hz0 hz1 hz2 rfl (by decide) _ k _ rfl (HOWN2.out.alloc _) ⟨wq.heap.size, 0, none⟩ 1 1 [.int .u32 x] rfl rfl ?c1 ?c2 ?c3 ?c4 ?c5 ?_))
        case c1 => exact cell_one_new _ _ _
        case c2 => intro u hu; rw [List.mem_singleton.1 hu]; rfl
        case c3 => unfold maxLen; omega
        case c4 => omega
        case c5 => simp; omega
        intro v' w' hown' hgr _
        have HW : Hid (w'.ownsRow B 52 1 v' (k + 1) (ints .u32 (wordsR b (k + 1))) ∧ Below B w1 w') := Lib.hid ⟨by rw [← HTK.out]; exact hown', HBEL2.out.grown hgr (by simp; omega) (own_ge HOWN2.out)⟩
        clear hown' hgr
        go_wp2_with fail
        go_roundw
        case rel => exact ⟨k + 1, by omega, by go_num, HW.out.1, HW.out.2⟩
        case measure => simp [intOf]; omega
    · have hk64 : k = 64 := by omega
      subst hk64
      obtain ⟨gW, capW, rfl⟩ : ∃ g cap, u6 = .slice (some ⟨g, 0, none⟩) 64 cap := by
        rcases hown.2 with ⟨_, h0⟩ | ⟨g, cap, cur, h0, _⟩
        · omega
        · exact ⟨g, cap, h0⟩
      have hgW := hown.lt gW rfl
      have hSz : w.heap.size ≤ B := by rw [HBDD.out]; exact hB1.size
      have hBs : B ≤ wr.heap.size := by have := hbel.size; rw [← HBDD.out] at this; exact this
      have HOWN := Lib.hid hown
      have HBEL := Lib.hid hbel
      have hown2 : (wr.alloc (.cells #[] 52)).ownsRow wr.heap.size 52 1 (.slice (some ⟨wr.heap.size, 0, none⟩) 0 0) 0 [] := World.ownsRow_lit wr #[] 0 (Nat.le_refl _) (by unfold maxLen; omega) rfl
      have HOWN2 := Lib.hid hown2
      clear hown hbel hown2
      have HBW : Hid (Below w.heap.size w wr) := Lib.hid (hB1.trans ((by rw [← HBDD.out]; exact HBEL.out : Below w1.heap.size w1 wr).mono hB1.size))
      go_wp2_with (first
        | (at_builtin; refine wpList_append_own _ rfl (.tmp 82) (.tmp 83) 73 rfl wr.heap.size 52 i0 (.int .u32 0) 1 4 Tryd.underlying73 hi0 hz0 hz1 hz2 rfl (by decide) _ 0 _ rfl HOWN2.out ⟨gS, 0, none⟩ 8 cS (ints .u32 s) rfl ?c6 ?c7 ?c8 ?c9 ?c10 ?c11 ?_))
      case c6 => rw [length_ints, HS.out]
      case c7 =>
        intro j u hu
        rw [Addr.add_mid, Nat.zero_add]
        exact ((HBW.out.alloc HBW.out.size _).cell (p := ⟨gS, j, none⟩) hgS).trans (HSC.out j u hu)
      case c8 => exact one_ints _ _
      case c9 => unfold maxLen; omega
      case c10 => omega
      case c11 => simp
      intro v' w3 hown3 hgr3 _
      obtain ⟨g0, c0, rfl⟩ : ∃ g cap, v' = .slice (some ⟨g, 0, none⟩) 8 cap := by
        rcases hown3.2 with ⟨_, h0⟩ | ⟨g, cap, cur, h0, _⟩
        · omega
        · exact ⟨g, cap, h0⟩
      have hb3 : Below wr.heap.size wr w3 := (belowAlloc wr _).grown hgr3 (by simp) (own_ge HOWN2.out)
      have HB3 : Hid (Below w.heap.size w w3) := Lib.hid (HBW.out.trans (hb3.mono HBW.out.size))
      have HC0 : Hid (∀ j, j < 8 → w3.cell? ⟨g0, j, none⟩ = some (.int .u32 (s.getD j 0))) := Lib.hid fun j hj => by
        rw [hown3.cellAt j (by omega)]; exact get_ints .u32 s j (by rw [HS.out]; exact hj)
      have hg0 : g0 < w3.heap.size := (hown3.lt g0 rfl).2
      have HWC : Hid (∀ i, i < 64 → w3.cell? ⟨gW, i, none⟩ = some (.int .u32 ((wordsR b 64).getD i 0))) := Lib.hid fun i hi => by
        rw [hb3.cell (p := ⟨gW, i, none⟩) hgW.2, HOWN.out.cellAt i (by omega)]; exact get_ints .u32 (wordsR b 64) i (by rw [length_wordsR]; exact hi)
      have hgW3 : gW < w3.heap.size := Nat.lt_of_lt_of_le hgW.2 hb3.size
      have HKC : Hid (∀ i, i < 64 → w3.cell? ⟨gK, i, none⟩ = some (.int .u32 (rootsL.getD i 0))) := Lib.hid fun i hi => by
        have hbk : Blk w3 gK 52 (ints .u32 rootsL) := (HBK.out.below HBEL.out hgK).below hb3 (by omega)
        rw [hbk.cell]; exact get_ints .u32 rootsL i (by rw [length_roots]; exact hi)
      have hgK3 : gK < w3.heap.size := by have := hb3.size; omega
      obtain ⟨W, hW⟩ : ∃ W, W = wordsR b 64 := ⟨_, rfl⟩
      have HWB : Hid (∀ i, 0 ≤ W.getD i 0 ∧ W.getD i 0 < 4294967296) := Lib.hid fun i => by rw [hW]; exact wordsR_bd b 64 i
      have HWW := Lib.hid hW
      rw [← hW] at HWC
      clear hown3 hgr3 hb3 HOWN HBEL HOWN2 hgW hW HBK
      go_wp2_with fail
      go_loopw [12, 13] (fun v i wq => ∃ (k gk ck : Nat), k ≤ 64 ∧ i = .int .i64 k ∧ v = .slice (some ⟨gk, 0, none⟩) 8 ck ∧ gk < wq.heap.size ∧ (∀ j, j < 8 → wq.cell? ⟨gk, j, none⟩ = some (.int .u32 ((rnds W s k).getD j 0))) ∧ Below w3.heap.size w3 wq) (fun _ i _ => 64 - (intOf i).toNat)
      case atStart => exact ⟨0, g0, c0, by omega, rfl, rfl, hg0, HC0.out, Below.refl _ _⟩
      case round =>
        clear HC0
        obtain ⟨k, gk, ck, hk, rfl, rfl, hgk, hcl, hbel⟩ := hrel
        have HBQ := Lib.hid hbel
        obtain ⟨hRl, hRd⟩ := rnds_ok W s HS.out HSD.out k
        by_cases hk64 : k < 64
        · have HNX : Hid (rnds W s (k + 1) = rnd (rnds W s k) (rootsL.getD k 0) (W.getD k 0)) := Lib.hid rfl
          obtain ⟨R, hR⟩ : ∃ R, R = rnds W s k := ⟨_, rfl⟩
          rw [← hR] at hRl hRd hcl HNX
          clear hR
          obtain ⟨a, b', c, d, e, f, g, h', rfl⟩ := eight R hRl
          have ca := hcl 0 (by omega); have cb := hcl 1 (by omega); have cc := hcl 2 (by omega); have cd := hcl 3 (by omega)
          have ce := hcl 4 (by omega); have cf := hcl 5 (by omega); have cg := hcl 6 (by omega); have ch := hcl 7 (by omega)
          have da := hRd 0; have db := hRd 1; have dc := hRd 2; have dd := hRd 3; have de := hRd 4; have df := hRd 5; have dg := hRd 6; have dh := hRd 7
          simp only [List.getD_cons_zero, List.getD_cons_succ] at ca cb cc cd ce cf cg ch da db dc dd de df dg dh
          have ck1 := (hbel.cell (p := ⟨gK, k, none⟩) hgK3).trans (HKC.out k hk64)
          have cw1 := (hbel.cell (p := ⟨gW, k, none⟩) hgW3).trans (HWC.out k hk64)
          obtain ⟨wt, hwt⟩ : ∃ x, x = W.getD k 0 := ⟨_, rfl⟩
          obtain ⟨kt, hkt⟩ : ∃ x, x = rootsL.getD k 0 := ⟨_, rfl⟩
          rw [← hwt] at cw1 HNX
          rw [← hkt] at ck1 HNX
          have HRL : Hid ([a, b', c, d, e, f, g, h'].length = 8) := Lib.hid hRl
          clear hcl hRd hRl hbel hwt hkt
          obtain ⟨a0, a1⟩ := da; obtain ⟨e0, e1⟩ := de
          obtain ⟨b0, b1⟩ := db; obtain ⟨c0', c1⟩ := dc; obtain ⟨d0, d1⟩ := dd; obtain ⟨f0, f1⟩ := df; obtain ⟨g0', g1⟩ := dg; obtain ⟨h0, h1⟩ := dh
          have te : ∀ n : Nat, 1 ≤ n → n ≤ 31 → ∀ W, Calls Tryd.prog 49 #[.int .u32 e, .int .u64 (n : Int)] W (fun v w' => v = .returned (.int .u32 (rotr e n)) ∧ w' = W) := fun n h1 h2 W => (refTurn_any e n W e0 e1 h1 h2).mono fun _ _ hh => ⟨hh.1, hh.2.symm⟩
          have ta : ∀ n : Nat, 1 ≤ n → n ≤ 31 → ∀ W, Calls Tryd.prog 49 #[.int .u32 a, .int .u64 (n : Int)] W (fun v w' => v = .returned (.int .u32 (rotr a n)) ∧ w' = W) := fun n h1 h2 W => (refTurn_any a n W a0 a1 h1 h2).mono fun _ _ hh => ⟨hh.1, hh.2.symm⟩
          have te6 := Lib.hid (te 6 (by omega) (by omega)); have te11 := Lib.hid (te 11 (by omega) (by omega)); have te25 := Lib.hid (te 25 (by omega) (by omega))
          have ta2 := Lib.hid (ta 2 (by omega) (by omega)); have ta13 := Lib.hid (ta 13 (by omega) (by omega)); have ta22 := Lib.hid (ta 22 (by omega) (by omega))
          clear te ta
          go_wp2_with fail
          go_quiet ((go_at_call 49; first | (with_reducible exact Calls.quiet_of_same (te6.out _)) | (with_reducible exact Calls.quiet_of_same (te11.out _)) | (with_reducible exact Calls.quiet_of_same (te25.out _))))
          go_wp2_with fail
          have ca2 : (wr.drewN nq).cell? ⟨gk, 0, none⟩ = some (.int .u32 a) := ca
          have cb2 : (wr.drewN nq).cell? ⟨gk, 1, none⟩ = some (.int .u32 b') := cb
          have cc2 : (wr.drewN nq).cell? ⟨gk, 2, none⟩ = some (.int .u32 c) := cc
          have cd2 : (wr.drewN nq).cell? ⟨gk, 3, none⟩ = some (.int .u32 d) := cd
          have ce2 : (wr.drewN nq).cell? ⟨gk, 4, none⟩ = some (.int .u32 e) := ce
          have cf2 : (wr.drewN nq).cell? ⟨gk, 5, none⟩ = some (.int .u32 f) := cf
          have cg2 : (wr.drewN nq).cell? ⟨gk, 6, none⟩ = some (.int .u32 g) := cg
          have HBQ2 : Hid (Below w3.heap.size w3 (wr.drewN nq)) := Lib.hid (below_drewN HBQ.out nq)
          clear ca cb cc cd ce cf cg ch ck1 cw1 HBQ hgk
          generalize wr.drewN nq = wq2 at *
          go_quiet ((go_at_call 49; first | (with_reducible exact Calls.quiet_of_same (ta2.out _)) | (with_reducible exact Calls.quiet_of_same (ta13.out _)) | (with_reducible exact Calls.quiet_of_same (ta22.out _))))
          go_wp2_with fail
          have ca3 : (wq2.drewN nq).cell? ⟨gk, 0, none⟩ = some (.int .u32 a) := ca2
          have cb3 : (wq2.drewN nq).cell? ⟨gk, 1, none⟩ = some (.int .u32 b') := cb2
          have cc3 : (wq2.drewN nq).cell? ⟨gk, 2, none⟩ = some (.int .u32 c) := cc2
          have cd3 : (wq2.drewN nq).cell? ⟨gk, 3, none⟩ = some (.int .u32 d) := cd2
          have ce3 : (wq2.drewN nq).cell? ⟨gk, 4, none⟩ = some (.int .u32 e) := ce2
          have cf3 : (wq2.drewN nq).cell? ⟨gk, 5, none⟩ = some (.int .u32 f) := cf2
          have cg3 : (wq2.drewN nq).cell? ⟨gk, 6, none⟩ = some (.int .u32 g) := cg2
          have HBQ3 : Hid (Below w3.heap.size w3 (wq2.drewN nq)) := Lib.hid (below_drewN HBQ2.out nq)
          clear ca2 cb2 cc2 cd2 ce2 cf2 cg2 HBQ2
          generalize wq2.drewN nq = wq3 at *
          go_still_tail 26, (by kernel_rfl)
          change wpList _ _ _ _ _ wq3.drew
          have HBQ4 : Hid (Below w3.heap.size w3 wq3.drew) := Lib.hid HBQ3.out.drew
          clear ca3 cb3 cc3 cd3 ce3 cf3 cg3 HBQ3
          generalize wq3.drew = wq4 at *
          go_wp2_with fail
          go_roundw
          case rel =>
            refine ⟨k + 1, _, 8, by omega, by go_num, rfl, by simp, fun j hj => ?_, HBQ4.out.alloc HBQ4.out.size _⟩
            rw [HNX.out, cell_of_row _ _ _ _ _ _ (heap_alloc_new wq4 _)]
            match j, hj with
            | 0, _ => exact congrArg (fun z => some (Value.int .u32 z)) (by simp only [rnd, turns3, List.getD_cons_zero, show IntKind.u32.max = 4294967295 from rfl]; omega)
            | 1, _ => rfl
            | 2, _ => rfl
            | 3, _ => rfl
            | 4, _ => exact congrArg (fun z => some (Value.int .u32 z)) (by simp only [rnd, turns3, List.getD_cons_zero, List.getD_cons_succ, show IntKind.u32.max = 4294967295 from rfl]; omega)
            | 5, _ => rfl
            | 6, _ => rfl
            | 7, _ => rfl
          case measure => simp [intOf]; omega
        · obtain rfl : k = 64 := by omega
          rw [show (((64 : Nat)) : Int) = 64 from rfl]
          have HMX : Hid (mixL s b = outR s (rnds W s 64) 8) := Lib.hid (by rw [HWW.out]; exact mixL_ref s b HS.out HBD.out)
          obtain ⟨R, hR⟩ : ∃ R, R = rnds W s 64 := ⟨_, rfl⟩
          rw [← hR] at hRl hRd hcl HMX
          have HCL := Lib.hid hcl
          have HRD := Lib.hid hRd
          have hszq : w3.heap.size ≤ wr.heap.size := hbel.size
          have hsz3 : w.heap.size ≤ w3.heap.size := HB3.out.size
          have HBT : Hid (Below w.heap.size w wr) := Lib.hid (HB3.out.trans (hbel.mono hsz3))
          obtain ⟨w5, hw5⟩ : ∃ x, x = wr := ⟨_, rfl⟩
          rw [← hw5] at HBT HCL hgk ⊢
          have hown0 : w5.ownsRow w5.heap.size 52 1 (.slice none 0 0) 0 [] := World.ownsRow_nil _ _ _ _
          have HO0 := Lib.hid hown0
          clear hR hcl hRd hbel hw5 hown0 HBQ hRl hszq hsz3
          go_wp2_with fail
          go_loopw [16, 17] (fun v i wq => ∃ j : Nat, j ≤ 8 ∧ i = .int .i64 j ∧ wq.ownsRow w5.heap.size 52 1 v j (ints .u32 (outR s R j)) ∧ Below w5.heap.size w5 wq) (fun _ i _ => 8 - (intOf i).toNat)
          case atStart => exact ⟨0, by omega, rfl, HO0.out, Below.refl _ _⟩
          case round =>
            clear HO0
            obtain ⟨j, hj, rfl, hown, hbel⟩ := hrel
            have HOW := Lib.hid hown
            have HBE := Lib.hid hbel
            by_cases hj8 : j < 8
            · have c1 := (hbel.cell (p := ⟨gk, j, none⟩) hgk).trans (HCL.out j hj8)
              have c2 := ((HBT.out.trans (hbel.mono HBT.out.size)).cell (p := ⟨gS, j, none⟩) hgS).trans (HSC.out j _ (get_ints .u32 s j (by rw [HS.out]; exact hj8)))
              obtain ⟨r0, r1⟩ := HRD.out j
              obtain ⟨s0, s1⟩ := HSD.out j
              have HNX : Hid (ints .u32 (outR s R j) ++ [.int .u32 ((R.getD j 0 + s.getD j 0) % 4294967296)] = ints .u32 (outR s R (j + 1))) := Lib.hid (by rw [outR, ints_append]; rfl)
              obtain ⟨x, hx⟩ : ∃ x, x = R.getD j 0 := ⟨_, rfl⟩
              obtain ⟨y, hy⟩ : ∃ y, y = s.getD j 0 := ⟨_, rfl⟩
              rw [← hx] at c1 r0 r1 HNX
              rw [← hy] at c2 s0 s1 HNX
              clear hown hbel hx hy
              go_wp2_with fail
              have agk : u16.ownBlock ≠ some gk := fun e => by have := own_ge HOW.out gk e; exact absurd hgk (by omega)
              have ags : u16.ownBlock ≠ some gS := fun e => by have := own_ge HOW.out gS e; have := HBT.out.size; omega
              have hszr : w5.heap.size ≤ wr.heap.size := HBE.out.size
              have lgk : gk < wr.heap.size := lt_of_cellO c1
              have lgs : gS < wr.heap.size := lt_of_cellO c2
              have hj0 : (0 : Int) ≤ (j : Int) := by omega
              have hj1 : (j : Int) < 8 := by omega
              have hwr : IntKind.u32.wrap (x + y) = (x + y) % 4294967296 := IntKind.wrap_u32 _
              go_region_held3 (fun W => W.cell? ⟨gk, j, none⟩ = some (.int .u32 x) ∧ W.cell? ⟨gS, j, none⟩ = some (.int .u32 y))
                (first
                  | go_keep
                  | (go_split_ands
                     refine ⟨?_, ?_⟩
                     · (rw [hgrow.cell_far _ (by simp; omega) (Ne.symm agk)]; assumption)
                     · (rw [hgrow.cell_far _ (by simp; omega) (Ne.symm ags)]; assumption)))
                ((refine step_append_lies _ (by rfl) _ _ _ (by rfl) w5.heap.size 52 i0 _ 1 4 Tryd.underlying73 hi0 hz0 hz1 hz2 rfl (by omega) u16 j (ints .u32 (outR s R j)) (by rfl) ((HOW.out.alloc _).drew)
                    ⟨wr.heap.size, 0, none⟩ 1 1 [.int .u32 ((x + y) % 4294967296)] (by rfl) (by rfl) (World.news_of_block (cs := #[.int .u32 ((x + y) % 4294967296)]) (t := 52) (fr := (0, 0)) (heap_alloc_new wr _)) (by simp [Value.oneCell'])
                    (by omega) (by unfold maxLen; omega) (by omega) (by simp; omega) (wr.heap.size + 1) (by simp) ?_; intro gg cap w1' hown1 hgrow hat hlt2))
              have hgr2 : (wr.alloc (.cells #[.int .u32 ((x + y) % 4294967296)] 52)).drew.grownBy w1' u16.ownBlock := hgrow
              have HW : Hid (w1'.ownsRow w5.heap.size 52 1 (.slice (some ⟨gg, 0, none⟩) (j + 1) cap) (j + 1) (ints .u32 (outR s R (j + 1))) ∧ Below w5.heap.size w5 w1') := Lib.hid ⟨by rw [← HNX.out]; exact hown1, (HBE.out.alloc hszr _).drew.grown hgr2 (by simp; omega) (own_ge HOW.out)⟩
              clear hwr hown1 hgrow hgr2 hat hlt2
              go_wp2_with fail
              go_roundw
              case rel => exact ⟨j + 1, by omega, by go_num, HW.out.1, HW.out.2⟩
              case measure => simp [intOf]; omega
            · obtain rfl : j = 8 := by omega
              obtain ⟨g8, c8, rfl⟩ : ∃ g cap, u16 = .slice (some ⟨g, 0, none⟩) 8 cap := by
                rcases hown.2 with ⟨_, h0⟩ | ⟨g, cap, cur, h0, _⟩
                · omega
                · exact ⟨g, cap, h0⟩
              have hge := own_ge hown g8 rfl
              have HFIN : Hid (w.heap.size ≤ g8 ∧ (∀ j v, (ints .u32 (mixL s b))[j]? = some v → wr.cell? ⟨g8, j, none⟩ = some v) ∧ Below w.heap.size w wr) := Lib.hid ⟨Nat.le_trans HBT.out.size hge, fun j v hv => by
                rw [HMX.out] at hv
                have hj := (List.getElem?_eq_some_iff.1 hv).1
                rw [length_ints, length_outR] at hj
                rw [hown.cellAt j (by omega)]; exact hv, HBT.out.trans (hbel.mono HBT.out.size)⟩
              clear hown hbel HOW HBE hge
              go_wp2_with fail
              go_ret
              exact ⟨g8, c8, rfl, HFIN.out⟩
end Go.Proofs.YtdgpphihjeffcaaDoor
