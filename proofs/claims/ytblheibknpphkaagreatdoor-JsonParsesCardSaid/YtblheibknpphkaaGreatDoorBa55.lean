/- JsonValue2, JsonValue3, JsonValue4, JsonValue5, JsonValue6: merged. -/
import Derived.Test.YtblheibknpphkaaGreatDoorBa54
set_option linter.all false
namespace Go.Proofs.YtblheibknpphkaaGreatDoor
open Go Go.RowKit
set_option maxRecDepth 100000 in
set_option maxHeartbeats 4000000 in
theorem refValue_true (s : ByteArray) (hs : s.size ≤ 5000) (deep : Int) (mny : Nat → Int → VR) (i : Nat) (left : Int) (hi : i ≤ s.size) (hl0 : 0 ≤ left) (hl : left ≤ 256) (W : World) (hc : atL (strL s) i = 116) :
    Calls Tryz.prog 32 #[.string s, .int .i64 (i : Int), .int .i64 deep, .int .i64 left] W (ValTells W (valF (strL s) mny i left)) := by
  have HL := Lib.hid (length_strL s)
  have HC := Lib.hid (fun W : World => refByte_any s i W (by omega) (by omega))
  rw [hc] at HC
  have HW := Lib.hid (fun W : World => refWord_any s ⟨#[116, 114, 117, 101]⟩ i W (by omega) (by decide) (by omega))
  have hwl := wordL_le (l := strL s) (x := [116, 114, 117, 101]) (i := i) (by decide) (by rw [HL.out]; exact hi)
  rw [show strL ⟨#[116, 114, 117, 101]⟩ = [116, 114, 117, 101] from rfl] at HW
  have HR : Hid (valF (strL s) mny i left = if left - 1 < 0 then (zeroJ, i, left - 1, 53) else tellV (strL s) (left - 1) (.mk 1 1 ⟨#[]⟩ [] []) (wordL (strL s) i [116, 114, 117, 101])) := Lib.hid (by
    unfold valF; rw [hc]; rfl)
  obtain ⟨p, hp⟩ : ∃ p, p = wordL (strL s) i [116, 114, 117, 101] := ⟨_, rfl⟩
  rw [← hp] at HW hwl HR
  obtain ⟨p, er⟩ := p
  rw [HL.out] at hwl
  simp only at HW hwl
  have HSK := Lib.hid (fun W : World => refSkip_any s p W (by omega) hwl)
  clear hc hp
  by_cases h1 : left - 1 < 0
  · have HR2 : Hid (valF (strL s) mny i left = (zeroJ, i, left - 1, 53)) := Lib.hid (by rw [HR.out, if_pos h1])
    clear HR
    go_enter Tryz.func32, Tryz.ntmps32
    go_wp2_with (go_at_call 55; (with_reducible refine (HC.out _).mono ?_); rintro e w' ⟨rfl, rfl⟩)
    rw [HR2.out]
    refine bodyPost_ret (v := .tuple #[.agg #[.int .i64 0, .int .i64 0, .string ⟨#[]⟩, .slice none 0 0, .slice none 0 0], .int .i64 (i : Int), .int .i64 (left - 1), .int .i64 53]) (by simp [results, Tryz.results32, go_sem]) rfl ⟨_, rfl, RepS.zero _ _, ?_⟩
    exact (Below.refl _ _).alloc (Nat.le_refl _) _
  · by_cases he : er = 0
    · have HR2 : Hid (valF (strL s) mny i left = ((.mk 1 1 ⟨#[]⟩ [] []), skipL (strL s) p, left - 1, 0)) := Lib.hid (by rw [HR.out, if_neg h1]; unfold tellV; rw [if_neg (by simp only; omega)])
      obtain ⟨hb, hb2⟩ := beq_yes he
      clear HR he
      go_enter Tryz.func32, Tryz.ntmps32
      go_wp2_with (first
        | (go_at_call 55; (with_reducible refine (HC.out _).mono ?_); rintro e w' ⟨rfl, rfl⟩)
        | (refine wpList_store_blk rfl none rfl _ (.tmp 14) _ rfl (W.heap.size + 1) 0 [.int .i64 1, .int .i64 1, .string ⟨#[]⟩, .slice none 0 0, .slice none 0 0] rfl rfl _ _ (heap_two14 W zeros5 zeros5) (by simp [zeros5]) sizeJson (by intro v hv; simp at hv; rcases hv with rfl | rfl | rfl | rfl | rfl <;> rfl) ?_; intro wS hb14s hgrs; rw [splice_all _ _ (by simp [zeros5])] at hb14s; have hb8s := Blk.grown (heap_two8 W zeros5 zeros5) hgrs (by simp); have HBS := Lib.hid (Below.grown (belowTwo W zeros5 zeros5) hgrs (Below.size (belowTwo W zeros5 zeros5)) (by intro k hk; injection hk with hk; omega)); clear hgrs; try go_frame)
        | (go_at_call 58; (with_reducible refine (HW.out _).mono ?_); rintro e w1 ⟨rfl, hb⟩; have HB := Lib.hid (Below.trans HBS.out (hb.mono (Below.size HBS.out))); have hb8 := Blk.below hb8s hb (Blk.lt hb8s); have hb14 := Blk.below hb14s hb (Blk.lt hb14s); clear hb))
      obtain ⟨a0, a1, a2, a3, a4⟩ : w1.cell? ⟨W.heap.size, 0, none⟩ = some (.int .i64 0) ∧ w1.cell? ⟨W.heap.size, 1, none⟩ = some (.int .i64 0) ∧ w1.cell? ⟨W.heap.size, 2, none⟩ = some (.string ⟨#[]⟩) ∧ w1.cell? ⟨W.heap.size, 3, none⟩ = some (.slice none 0 0) ∧ w1.cell? ⟨W.heap.size, 4, none⟩ = some (.slice none 0 0) := ⟨hb8.cell 0, hb8.cell 1, hb8.cell 2, hb8.cell 3, hb8.cell 4⟩
      obtain ⟨f0, f1, f2, f3, f4⟩ : w1.frozen? ⟨W.heap.size, 0, none⟩ = false ∧ w1.frozen? ⟨W.heap.size, 1, none⟩ = false ∧ w1.frozen? ⟨W.heap.size, 2, none⟩ = false ∧ w1.frozen? ⟨W.heap.size, 3, none⟩ = false ∧ w1.frozen? ⟨W.heap.size, 4, none⟩ = false := ⟨hb8.frozen 0, hb8.frozen 1, hb8.frozen 2, hb8.frozen 3, hb8.frozen 4⟩
      obtain ⟨b0, b1, b2, b3, b4⟩ : w1.cell? ⟨W.heap.size + 1, 0, none⟩ = some (.int .i64 1) ∧ w1.cell? ⟨W.heap.size + 1, 1, none⟩ = some (.int .i64 1) ∧ w1.cell? ⟨W.heap.size + 1, 2, none⟩ = some (.string ⟨#[]⟩) ∧ w1.cell? ⟨W.heap.size + 1, 3, none⟩ = some (.slice none 0 0) ∧ w1.cell? ⟨W.heap.size + 1, 4, none⟩ = some (.slice none 0 0) := ⟨hb14.cell 0, hb14.cell 1, hb14.cell 2, hb14.cell 3, hb14.cell 4⟩
      go_region_law (go_simp; go_at_call 33; (with_reducible refine (HSK.out _).mono ?_); rintro e w' ⟨rfl, rfl⟩)
      all_goals
        go_wp2_with fail
        simp only [List.getElem_toArray, List.getElem_cons_succ, List.getElem_cons_zero, Act.put, List.setIfInBounds_toArray, List.set_cons_succ, List.set_cons_zero]
        obtain ⟨hA, hA2⟩ := fin5 HB.out hb8 (.int .i64 1) (.int .i64 1) (.string ⟨#[]⟩) (.slice none 0 0) (.slice none 0 0)
        obtain ⟨hC, hC2⟩ := fin5 (below_drew HB.out) hb8.drew (.int .i64 1) (.int .i64 1) (.string ⟨#[]⟩) (.slice none 0 0) (.slice none 0 0)
        have hA' := hA.drew
        have hA2' := below_drew hA2
        refine bodyPost_ret (v := .tuple #[.agg #[.int .i64 1, .int .i64 1, .string ⟨#[]⟩, .slice none 0 0, .slice none 0 0], .int .i64 (skipL (strL s) p : Nat), .int .i64 (left - 1), .int .i64 0]) (results_blk4 Tryz.results32 _ _ W.heap.size _ [.int .i64 1, .int .i64 1, .string ⟨#[]⟩, .slice none 0 0, .slice none 0 0] _ rfl (by first | (with_reducible exact hA') | (with_reducible exact hC)) Tryz.underlying26 rfl sizeJson) rfl ?_
        rw [HR2.out]
        exact ⟨_, rfl, RepS.plain _ _ 1 1 _ (by decide), (by first | (with_reducible exact hA2') | (with_reducible exact hC2))⟩
    · have HR2 : Hid (valF (strL s) mny i left = (zeroJ, p, left - 1, er)) := Lib.hid (by rw [HR.out, if_neg h1]; exact if_pos he)
      obtain ⟨hb, hb2⟩ := beq_no he
      clear HR he
      go_enter Tryz.func32, Tryz.ntmps32
      go_wp2_with (first
        | (go_at_call 55; (with_reducible refine (HC.out _).mono ?_); rintro e w' ⟨rfl, rfl⟩)
        | (refine wpList_store_blk rfl none rfl _ (.tmp 14) _ rfl (W.heap.size + 1) 0 [.int .i64 1, .int .i64 1, .string ⟨#[]⟩, .slice none 0 0, .slice none 0 0] rfl rfl _ _ (heap_two14 W zeros5 zeros5) (by simp [zeros5]) sizeJson (by intro v hv; simp at hv; rcases hv with rfl | rfl | rfl | rfl | rfl <;> rfl) ?_; intro wS hb14s hgrs; rw [splice_all _ _ (by simp [zeros5])] at hb14s; have hb8s := Blk.grown (heap_two8 W zeros5 zeros5) hgrs (by simp); have HBS := Lib.hid (Below.grown (belowTwo W zeros5 zeros5) hgrs (Below.size (belowTwo W zeros5 zeros5)) (by intro k hk; injection hk with hk; omega)); clear hgrs; try go_frame)
        | (go_at_call 58; (with_reducible refine (HW.out _).mono ?_); rintro e w1 ⟨rfl, hb⟩; have HB := Lib.hid (Below.trans HBS.out (hb.mono (Below.size HBS.out))); have hb8 := Blk.below hb8s hb (Blk.lt hb8s); have hb14 := Blk.below hb14s hb (Blk.lt hb14s); clear hb)
        | (refine wpList_store_blk rfl none rfl _ (.tmp 8) _ rfl W.heap.size 0 [.int .i64 0, .int .i64 0, .string ⟨#[]⟩, .slice none 0 0, .slice none 0 0] rfl rfl _ _ hb8 (by simp [zeros5]) sizeJson (by intro v hv; simp at hv; rcases hv with rfl | rfl | rfl | rfl | rfl <;> rfl) ?_; intro w5 hb5 hgr; rw [splice_all _ _ (by simp [zeros5])] at hb5; have HB5 := Lib.hid (Below.grown HB.out hgr (Below.size HB.out) (by intro k hk; injection hk with hk; omega)); clear hgr; try go_frame))
      refine bodyPost_ret (v := .tuple #[.agg #[.int .i64 0, .int .i64 0, .string ⟨#[]⟩, .slice none 0 0, .slice none 0 0], .int .i64 (p : Int), .int .i64 (left - 1), .int .i64 er]) (results_blk4 Tryz.results32 _ _ W.heap.size _ [.int .i64 0, .int .i64 0, .string ⟨#[]⟩, .slice none 0 0, .slice none 0 0] _ rfl hb5 Tryz.underlying26 rfl sizeJson) rfl ?_
      rw [HR2.out]
      exact ⟨_, rfl, RepS.zero _ _, HB5.out⟩
set_option maxRecDepth 100000 in
set_option maxHeartbeats 4000000 in
theorem refValue_false (s : ByteArray) (hs : s.size ≤ 5000) (deep : Int) (mny : Nat → Int → VR) (i : Nat) (left : Int) (hi : i ≤ s.size) (hl0 : 0 ≤ left) (hl : left ≤ 256) (W : World) (hc : atL (strL s) i = 102) :
    Calls Tryz.prog 32 #[.string s, .int .i64 (i : Int), .int .i64 deep, .int .i64 left] W (ValTells W (valF (strL s) mny i left)) := by
  have HL := Lib.hid (length_strL s)
  have HC := Lib.hid (fun W : World => refByte_any s i W (by omega) (by omega))
  rw [hc] at HC
  have HW := Lib.hid (fun W : World => refWord_any s ⟨#[102, 97, 108, 115, 101]⟩ i W (by omega) (by decide) (by omega))
  have hwl := wordL_le (l := strL s) (x := [102, 97, 108, 115, 101]) (i := i) (by decide) (by rw [HL.out]; exact hi)
  rw [show strL ⟨#[102, 97, 108, 115, 101]⟩ = [102, 97, 108, 115, 101] from rfl] at HW
  have HR : Hid (valF (strL s) mny i left = if left - 1 < 0 then (zeroJ, i, left - 1, 53) else tellV (strL s) (left - 1) (.mk 1 0 ⟨#[]⟩ [] []) (wordL (strL s) i [102, 97, 108, 115, 101])) := Lib.hid (by
    unfold valF; rw [hc]; rfl)
  obtain ⟨p, hp⟩ : ∃ p, p = wordL (strL s) i [102, 97, 108, 115, 101] := ⟨_, rfl⟩
  rw [← hp] at HW hwl HR
  obtain ⟨p, er⟩ := p
  rw [HL.out] at hwl
  simp only at HW hwl
  have HSK := Lib.hid (fun W : World => refSkip_any s p W (by omega) hwl)
  clear hc hp
  by_cases h1 : left - 1 < 0
  · have HR2 : Hid (valF (strL s) mny i left = (zeroJ, i, left - 1, 53)) := Lib.hid (by rw [HR.out, if_pos h1])
    clear HR
    go_enter Tryz.func32, Tryz.ntmps32
    go_wp2_with (go_at_call 55; (with_reducible refine (HC.out _).mono ?_); rintro e w' ⟨rfl, rfl⟩)
    rw [HR2.out]
    refine bodyPost_ret (v := .tuple #[.agg #[.int .i64 0, .int .i64 0, .string ⟨#[]⟩, .slice none 0 0, .slice none 0 0], .int .i64 (i : Int), .int .i64 (left - 1), .int .i64 53]) (by simp [results, Tryz.results32, go_sem]) rfl ⟨_, rfl, RepS.zero _ _, ?_⟩
    exact (Below.refl _ _).alloc (Nat.le_refl _) _
  · by_cases he : er = 0
    · have HR2 : Hid (valF (strL s) mny i left = ((.mk 1 0 ⟨#[]⟩ [] []), skipL (strL s) p, left - 1, 0)) := Lib.hid (by rw [HR.out, if_neg h1]; unfold tellV; rw [if_neg (by simp only; omega)])
      obtain ⟨hb, hb2⟩ := beq_yes he
      clear HR he
      go_enter Tryz.func32, Tryz.ntmps32
      go_wp2_with (first
        | (go_at_call 55; (with_reducible refine (HC.out _).mono ?_); rintro e w' ⟨rfl, rfl⟩)
        | (refine wpList_store_blk rfl none rfl _ (.tmp 14) _ rfl (W.heap.size + 1) 0 [.int .i64 1, .int .i64 0, .string ⟨#[]⟩, .slice none 0 0, .slice none 0 0] rfl rfl _ _ (heap_two14 W zeros5 zeros5) (by simp [zeros5]) sizeJson (by intro v hv; simp at hv; rcases hv with rfl | rfl | rfl | rfl | rfl <;> rfl) ?_; intro wS hb14s hgrs; rw [splice_all _ _ (by simp [zeros5])] at hb14s; have hb8s := Blk.grown (heap_two8 W zeros5 zeros5) hgrs (by simp); have HBS := Lib.hid (Below.grown (belowTwo W zeros5 zeros5) hgrs (Below.size (belowTwo W zeros5 zeros5)) (by intro k hk; injection hk with hk; omega)); clear hgrs; try go_frame)
        | (go_at_call 58; (with_reducible refine (HW.out _).mono ?_); rintro e w1 ⟨rfl, hb⟩; have HB := Lib.hid (Below.trans HBS.out (hb.mono (Below.size HBS.out))); have hb8 := Blk.below hb8s hb (Blk.lt hb8s); have hb14 := Blk.below hb14s hb (Blk.lt hb14s); clear hb))
      obtain ⟨a0, a1, a2, a3, a4⟩ : w1.cell? ⟨W.heap.size, 0, none⟩ = some (.int .i64 0) ∧ w1.cell? ⟨W.heap.size, 1, none⟩ = some (.int .i64 0) ∧ w1.cell? ⟨W.heap.size, 2, none⟩ = some (.string ⟨#[]⟩) ∧ w1.cell? ⟨W.heap.size, 3, none⟩ = some (.slice none 0 0) ∧ w1.cell? ⟨W.heap.size, 4, none⟩ = some (.slice none 0 0) := ⟨hb8.cell 0, hb8.cell 1, hb8.cell 2, hb8.cell 3, hb8.cell 4⟩
      obtain ⟨f0, f1, f2, f3, f4⟩ : w1.frozen? ⟨W.heap.size, 0, none⟩ = false ∧ w1.frozen? ⟨W.heap.size, 1, none⟩ = false ∧ w1.frozen? ⟨W.heap.size, 2, none⟩ = false ∧ w1.frozen? ⟨W.heap.size, 3, none⟩ = false ∧ w1.frozen? ⟨W.heap.size, 4, none⟩ = false := ⟨hb8.frozen 0, hb8.frozen 1, hb8.frozen 2, hb8.frozen 3, hb8.frozen 4⟩
      obtain ⟨b0, b1, b2, b3, b4⟩ : w1.cell? ⟨W.heap.size + 1, 0, none⟩ = some (.int .i64 1) ∧ w1.cell? ⟨W.heap.size + 1, 1, none⟩ = some (.int .i64 0) ∧ w1.cell? ⟨W.heap.size + 1, 2, none⟩ = some (.string ⟨#[]⟩) ∧ w1.cell? ⟨W.heap.size + 1, 3, none⟩ = some (.slice none 0 0) ∧ w1.cell? ⟨W.heap.size + 1, 4, none⟩ = some (.slice none 0 0) := ⟨hb14.cell 0, hb14.cell 1, hb14.cell 2, hb14.cell 3, hb14.cell 4⟩
      go_region_law (go_simp; go_at_call 33; (with_reducible refine (HSK.out _).mono ?_); rintro e w' ⟨rfl, rfl⟩)
      all_goals
        go_wp2_with fail
        simp only [List.getElem_toArray, List.getElem_cons_succ, List.getElem_cons_zero, Act.put, List.setIfInBounds_toArray, List.set_cons_succ, List.set_cons_zero]
        obtain ⟨hA, hA2⟩ := fin5 HB.out hb8 (.int .i64 1) (.int .i64 0) (.string ⟨#[]⟩) (.slice none 0 0) (.slice none 0 0)
        obtain ⟨hC, hC2⟩ := fin5 (below_drew HB.out) hb8.drew (.int .i64 1) (.int .i64 0) (.string ⟨#[]⟩) (.slice none 0 0) (.slice none 0 0)
        have hA' := hA.drew
        have hA2' := below_drew hA2
        refine bodyPost_ret (v := .tuple #[.agg #[.int .i64 1, .int .i64 0, .string ⟨#[]⟩, .slice none 0 0, .slice none 0 0], .int .i64 (skipL (strL s) p : Nat), .int .i64 (left - 1), .int .i64 0]) (results_blk4 Tryz.results32 _ _ W.heap.size _ [.int .i64 1, .int .i64 0, .string ⟨#[]⟩, .slice none 0 0, .slice none 0 0] _ rfl (by first | (with_reducible exact hA') | (with_reducible exact hC)) Tryz.underlying26 rfl sizeJson) rfl ?_
        rw [HR2.out]
        exact ⟨_, rfl, RepS.plain _ _ 1 0 _ (by decide), (by first | (with_reducible exact hA2') | (with_reducible exact hC2))⟩
    · have HR2 : Hid (valF (strL s) mny i left = (zeroJ, p, left - 1, er)) := Lib.hid (by rw [HR.out, if_neg h1]; exact if_pos he)
      obtain ⟨hb, hb2⟩ := beq_no he
      clear HR he
      go_enter Tryz.func32, Tryz.ntmps32
      go_wp2_with (first
        | (go_at_call 55; (with_reducible refine (HC.out _).mono ?_); rintro e w' ⟨rfl, rfl⟩)
        | (refine wpList_store_blk rfl none rfl _ (.tmp 14) _ rfl (W.heap.size + 1) 0 [.int .i64 1, .int .i64 0, .string ⟨#[]⟩, .slice none 0 0, .slice none 0 0] rfl rfl _ _ (heap_two14 W zeros5 zeros5) (by simp [zeros5]) sizeJson (by intro v hv; simp at hv; rcases hv with rfl | rfl | rfl | rfl | rfl <;> rfl) ?_; intro wS hb14s hgrs; rw [splice_all _ _ (by simp [zeros5])] at hb14s; have hb8s := Blk.grown (heap_two8 W zeros5 zeros5) hgrs (by simp); have HBS := Lib.hid (Below.grown (belowTwo W zeros5 zeros5) hgrs (Below.size (belowTwo W zeros5 zeros5)) (by intro k hk; injection hk with hk; omega)); clear hgrs; try go_frame)
        | (go_at_call 58; (with_reducible refine (HW.out _).mono ?_); rintro e w1 ⟨rfl, hb⟩; have HB := Lib.hid (Below.trans HBS.out (hb.mono (Below.size HBS.out))); have hb8 := Blk.below hb8s hb (Blk.lt hb8s); have hb14 := Blk.below hb14s hb (Blk.lt hb14s); clear hb)
        | (refine wpList_store_blk rfl none rfl _ (.tmp 8) _ rfl W.heap.size 0 [.int .i64 0, .int .i64 0, .string ⟨#[]⟩, .slice none 0 0, .slice none 0 0] rfl rfl _ _ hb8 (by simp [zeros5]) sizeJson (by intro v hv; simp at hv; rcases hv with rfl | rfl | rfl | rfl | rfl <;> rfl) ?_; intro w5 hb5 hgr; rw [splice_all _ _ (by simp [zeros5])] at hb5; have HB5 := Lib.hid (Below.grown HB.out hgr (Below.size HB.out) (by intro k hk; injection hk with hk; omega)); clear hgr; try go_frame))
      refine bodyPost_ret (v := .tuple #[.agg #[.int .i64 0, .int .i64 0, .string ⟨#[]⟩, .slice none 0 0, .slice none 0 0], .int .i64 (p : Int), .int .i64 (left - 1), .int .i64 er]) (results_blk4 Tryz.results32 _ _ W.heap.size _ [.int .i64 0, .int .i64 0, .string ⟨#[]⟩, .slice none 0 0, .slice none 0 0] _ rfl hb5 Tryz.underlying26 rfl sizeJson) rfl ?_
      rw [HR2.out]
      exact ⟨_, rfl, RepS.zero _ _, HB5.out⟩
end Go.Proofs.YtblheibknpphkaaGreatDoor
namespace Go.Proofs.YtblheibknpphkaaGreatDoor
open Go Go.RowKit
set_option maxRecDepth 100000 in
set_option maxHeartbeats 4000000 in
theorem refValue_text (s : ByteArray) (hs : s.size ≤ 5000) (deep : Int) (mny : Nat → Int → VR) (i : Nat) (left : Int) (hi : i ≤ s.size) (hl0 : 0 ≤ left) (hl : left ≤ 256) (W : World) (hc : atL (strL s) i = 34) :
    Calls Tryz.prog 32 #[.string s, .int .i64 (i : Int), .int .i64 deep, .int .i64 left] W (ValTells W (valF (strL s) mny i left)) := by
  have HL := Lib.hid (length_strL s)
  have HC := Lib.hid (fun W : World => refByte_any s i W (by omega) (by omega))
  rw [hc] at HC
  have HW := Lib.hid (fun W : World => refQuoted_any s i W (by omega) (by omega))
  have hwl := quotedL_le (strL s) i
  have hts := quotedL_len (strL s) i
  have HR : Hid (valF (strL s) mny i left = if left - 1 < 0 then (zeroJ, i, left - 1, 53) else tellV (strL s) (left - 1) (.mk 3 0 (toS (quotedL (strL s) i).1) [] []) (quotedL (strL s) i).2) := Lib.hid (by
    unfold valF; rw [hc]; rfl)
  obtain ⟨r, hr⟩ : ∃ r, r = quotedL (strL s) i := ⟨_, rfl⟩
  rw [← hr] at HW hwl HR hts
  obtain ⟨t, p, er⟩ := r
  rw [HL.out] at hwl hts
  simp only at HW hwl hts
  obtain ⟨T, hT⟩ : ∃ T, T = toS t := ⟨_, rfl⟩
  have HTS : Hid (T.size ≤ 9223372036854775807) := Lib.hid (by rw [hT, size_toS]; omega)
  simp only at HR
  rw [← hT] at HW HR
  clear hc hr hT hts
  by_cases h1 : left - 1 < 0
  · have HR2 : Hid (valF (strL s) mny i left = (zeroJ, i, left - 1, 53)) := Lib.hid (by rw [HR.out, if_pos h1])
    clear HR
    go_enter Tryz.func32, Tryz.ntmps32
    go_wp2_with (go_at_call 55; (with_reducible refine (HC.out _).mono ?_); rintro e w' ⟨rfl, rfl⟩)
    rw [HR2.out]
    refine bodyPost_ret (v := .tuple #[.agg #[.int .i64 0, .int .i64 0, .string ⟨#[]⟩, .slice none 0 0, .slice none 0 0], .int .i64 (i : Int), .int .i64 (left - 1), .int .i64 53]) (by simp [results, Tryz.results32, go_sem]) rfl ⟨_, rfl, RepS.zero _ _, ?_⟩
    exact (Below.refl _ _).alloc (Nat.le_refl _) _
  · by_cases he : er = 0
    · have HR2 : Hid (valF (strL s) mny i left = (.mk 3 0 T [] [], skipL (strL s) p, left - 1, 0)) := Lib.hid (by rw [HR.out, if_neg h1]; unfold tellV; rw [if_neg (by simp only; omega)])
      have HSK := Lib.hid (fun W : World => refSkip_any s p W (by omega) (hwl he))
      obtain ⟨hb, hb2⟩ := beq_yes he
      clear HR he hwl
      go_enter Tryz.func32, Tryz.ntmps32
      go_wp2_with (first
        | (go_at_call 55; (with_reducible refine (HC.out _).mono ?_); rintro e w' ⟨rfl, rfl⟩)
        | (go_at_call 59; (with_reducible refine (HW.out _).mono ?_); rintro e w1 ⟨rfl, hb⟩; have HB := Lib.hid (Below.trans (belowTwo W zeros5 zeros5) (hb.mono (Below.size (belowTwo W zeros5 zeros5)))); have hb8 := Blk.below (heap_two8 W zeros5 zeros5) hb (Blk.lt (heap_two8 W zeros5 zeros5)); have hb14 := Blk.below (heap_two14 W zeros5 zeros5) hb (Blk.lt (heap_two14 W zeros5 zeros5)); clear hb)
        | (refine wpList_store_blk rfl none rfl _ (.tmp 14) _ rfl (W.heap.size + 1) 0 [.int .i64 3, .int .i64 0, .string T, .slice none 0 0, .slice none 0 0] rfl rfl _ _ hb14 (by simp [zeros5]) sizeJson (by intro v hv; simp at hv; rcases hv with rfl | rfl | rfl | rfl | rfl <;> rfl) ?_; intro w2 hb14s hgrs; rw [splice_all _ _ (by simp [zeros5])] at hb14s; have hb8s := Blk.grown hb8 hgrs (by simp); have HBS := Lib.hid (Below.grown HB.out hgrs (Below.size HB.out) (by intro k hk; injection hk with hk; omega)); clear hgrs; try go_frame))
      obtain ⟨a0, a1, a2, a3, a4⟩ : w2.cell? ⟨W.heap.size, 0, none⟩ = some (.int .i64 0) ∧ w2.cell? ⟨W.heap.size, 1, none⟩ = some (.int .i64 0) ∧ w2.cell? ⟨W.heap.size, 2, none⟩ = some (.string ⟨#[]⟩) ∧ w2.cell? ⟨W.heap.size, 3, none⟩ = some (.slice none 0 0) ∧ w2.cell? ⟨W.heap.size, 4, none⟩ = some (.slice none 0 0) := ⟨hb8s.cell 0, hb8s.cell 1, hb8s.cell 2, hb8s.cell 3, hb8s.cell 4⟩
      obtain ⟨f0, f1, f2, f3, f4⟩ : w2.frozen? ⟨W.heap.size, 0, none⟩ = false ∧ w2.frozen? ⟨W.heap.size, 1, none⟩ = false ∧ w2.frozen? ⟨W.heap.size, 2, none⟩ = false ∧ w2.frozen? ⟨W.heap.size, 3, none⟩ = false ∧ w2.frozen? ⟨W.heap.size, 4, none⟩ = false := ⟨hb8s.frozen 0, hb8s.frozen 1, hb8s.frozen 2, hb8s.frozen 3, hb8s.frozen 4⟩
      obtain ⟨b0, b1, b2, b3, b4⟩ : w2.cell? ⟨W.heap.size + 1, 0, none⟩ = some (.int .i64 3) ∧ w2.cell? ⟨W.heap.size + 1, 1, none⟩ = some (.int .i64 0) ∧ w2.cell? ⟨W.heap.size + 1, 2, none⟩ = some (.string T) ∧ w2.cell? ⟨W.heap.size + 1, 3, none⟩ = some (.slice none 0 0) ∧ w2.cell? ⟨W.heap.size + 1, 4, none⟩ = some (.slice none 0 0) := ⟨hb14s.cell 0, hb14s.cell 1, hb14s.cell 2, hb14s.cell 3, hb14s.cell 4⟩
      go_region_law (go_simp; go_at_call 33; (with_reducible refine (HSK.out _).mono ?_); rintro e w' ⟨rfl, rfl⟩)
      all_goals
        go_wp2_with fail
        simp only [List.getElem_toArray, List.getElem_cons_succ, List.getElem_cons_zero, Act.put, List.setIfInBounds_toArray, List.set_cons_succ, List.set_cons_zero]
        obtain ⟨hA, hA2⟩ := fin5 HBS.out hb8s (.int .i64 3) (.int .i64 0) (.string T) (.slice none 0 0) (.slice none 0 0)
        obtain ⟨hC, hC2⟩ := fin5 (below_drew HBS.out) hb8s.drew (.int .i64 3) (.int .i64 0) (.string T) (.slice none 0 0) (.slice none 0 0)
        have hA' := hA.drew
        have hA2' := below_drew hA2
        refine bodyPost_ret (v := .tuple #[.agg #[.int .i64 3, .int .i64 0, .string T, .slice none 0 0, .slice none 0 0], .int .i64 (skipL (strL s) p : Nat), .int .i64 (left - 1), .int .i64 0]) (results_blk4 Tryz.results32 _ _ W.heap.size _ [.int .i64 3, .int .i64 0, .string T, .slice none 0 0, .slice none 0 0] _ rfl (by first | (with_reducible exact hA') | (with_reducible exact hC)) Tryz.underlying26 rfl sizeJson) rfl ?_
        rw [HR2.out]
        exact ⟨_, rfl, RepS.plain _ _ 3 0 _ HTS.out, (by first | (with_reducible exact hA2') | (with_reducible exact hC2))⟩
    · have HR2 : Hid (valF (strL s) mny i left = (zeroJ, p, left - 1, er)) := Lib.hid (by rw [HR.out, if_neg h1]; exact if_pos he)
      obtain ⟨hb, hb2⟩ := beq_no he
      clear HR he hwl
      go_enter Tryz.func32, Tryz.ntmps32
      go_wp2_with (first
        | (go_at_call 55; (with_reducible refine (HC.out _).mono ?_); rintro e w' ⟨rfl, rfl⟩)
        | (go_at_call 59; (with_reducible refine (HW.out _).mono ?_); rintro e w1 ⟨rfl, hb⟩; have HB := Lib.hid (Below.trans (belowTwo W zeros5 zeros5) (hb.mono (Below.size (belowTwo W zeros5 zeros5)))); have hb8 := Blk.below (heap_two8 W zeros5 zeros5) hb (Blk.lt (heap_two8 W zeros5 zeros5)); have hb14 := Blk.below (heap_two14 W zeros5 zeros5) hb (Blk.lt (heap_two14 W zeros5 zeros5)); clear hb)
        | (refine wpList_store_blk rfl none rfl _ (.tmp 14) _ rfl (W.heap.size + 1) 0 [.int .i64 3, .int .i64 0, .string T, .slice none 0 0, .slice none 0 0] rfl rfl _ _ hb14 (by simp [zeros5]) sizeJson (by intro v hv; simp at hv; rcases hv with rfl | rfl | rfl | rfl | rfl <;> rfl) ?_; intro w2 hb14s hgrs; rw [splice_all _ _ (by simp [zeros5])] at hb14s; have hb8s := Blk.grown hb8 hgrs (by simp); have HBS := Lib.hid (Below.grown HB.out hgrs (Below.size HB.out) (by intro k hk; injection hk with hk; omega)); clear hgrs; try go_frame)
        | (refine wpList_store_blk rfl none rfl _ (.tmp 8) _ rfl W.heap.size 0 [.int .i64 0, .int .i64 0, .string ⟨#[]⟩, .slice none 0 0, .slice none 0 0] rfl rfl _ _ hb8s (by simp [zeros5]) sizeJson (by intro v hv; simp at hv; rcases hv with rfl | rfl | rfl | rfl | rfl <;> rfl) ?_; intro w5 hb5 hgr; rw [splice_all _ _ (by simp [zeros5])] at hb5; have HB5 := Lib.hid (Below.grown HBS.out hgr (Below.size HBS.out) (by intro k hk; injection hk with hk; omega)); clear hgr; try go_frame))
      refine bodyPost_ret (v := .tuple #[.agg #[.int .i64 0, .int .i64 0, .string ⟨#[]⟩, .slice none 0 0, .slice none 0 0], .int .i64 (p : Int), .int .i64 (left - 1), .int .i64 er]) (results_blk4 Tryz.results32 _ _ W.heap.size _ [.int .i64 0, .int .i64 0, .string ⟨#[]⟩, .slice none 0 0, .slice none 0 0] _ rfl hb5 Tryz.underlying26 rfl sizeJson) rfl ?_
      rw [HR2.out]
      exact ⟨_, rfl, RepS.zero _ _, HB5.out⟩
end Go.Proofs.YtblheibknpphkaaGreatDoor
namespace Go.Proofs.YtblheibknpphkaaGreatDoor
open Go Go.RowKit
set_option maxRecDepth 100000 in
set_option maxHeartbeats 4000000 in
theorem refValue_num (s : ByteArray) (hs : s.size ≤ 5000) (deep : Int) (mny : Nat → Int → VR) (i : Nat) (left : Int) (hi : i ≤ s.size) (hl0 : 0 ≤ left) (hl : left ≤ 256) (W : World) (hc : atL (strL s) i = 45 ∨ (48 ≤ atL (strL s) i ∧ atL (strL s) i ≤ 57)) :
    Calls Tryz.prog 32 #[.string s, .int .i64 (i : Int), .int .i64 deep, .int .i64 left] W (ValTells W (valF (strL s) mny i left)) := by
  have HL := Lib.hid (length_strL s)
  have HC := Lib.hid (fun W : World => refByte_any s i W (by omega) (by omega))
  have hlt : i < s.size := by rw [← HL.out]; exact atL_lt (by omega)
  have hex : strL (s.extract i s.size) = (strL s).drop i := by rw [strL_extract, List.take_of_length_le (by rw [HL.out]; exact Nat.le_refl _)]
  have hles := leadL_le ((strL s).drop i)
  rw [List.length_drop, HL.out] at hles
  have HLE := Lib.hid (fun W : World => refLead_any (s.extract i s.size) W (by rw [← length_strL, hex, List.length_drop, HL.out]; omega))
  rw [hex] at HLE
  have hbg : beginsV (atL (strL s) i) = true := by unfold beginsV; rw [decide_eq_true_eq]; omega
  have HR : Hid (valF (strL s) mny i left = if left - 1 < 0 then (zeroJ, i, left - 1, 53) else if leadL ((strL s).drop i) = 0 then (zeroJ, i + 1, left - 1, 50)
      else if fitL (((strL s).drop i).take (leadL ((strL s).drop i))) (-9007199254740991) 9007199254740991 = true then (.mk 2 (numL (((strL s).drop i).take (leadL ((strL s).drop i)))) ⟨#[]⟩ [] [], skipL (strL s) (i + leadL ((strL s).drop i)), left - 1, 0)
      else (zeroJ, i, left - 1, 41)) := Lib.hid (by
    unfold valF
    rw [if_neg (by rw [hbg]; simp), if_pos hc])
  obtain ⟨n, hn⟩ : ∃ n, n = leadL ((strL s).drop i) := ⟨_, rfl⟩
  rw [← hn] at HLE HR hles
  have HSK := Lib.hid (fun W : World => refSkip_at s ((i : Int) + (n : Int)) (i + n) W (by omega) (by omega) (by omega))
  have HPART := Lib.hid (str_part s i n (by omega))
  have hps : (s.extract i (i + n)).size ≤ 5000 := by rw [HPART.out, size_toS, List.length_take]; omega
  have hpl : strL (s.extract i (i + n)) = ((strL s).drop i).take n := by rw [HPART.out]; exact strL_toS (((strL_bd s).drop i).take n)
  have HRD := Lib.hid (fun W : World => refRead_anyN (s.extract i (i + n)) (-9007199254740991) 9007199254740991 W (by omega) (by decide) (by decide))
  rw [hpl] at HRD
  have HFORM : Hid (n ≠ 0 → formL (((strL s).drop i).take n) = true) := Lib.hid (fun h => by rw [hn]; exact form_lead_take (by rw [← hn]; exact h))
  obtain ⟨D, hD⟩ : ∃ D, D = ((strL s).drop i).take n := ⟨_, rfl⟩
  rw [← hD] at HRD HR HFORM
  obtain ⟨N, hN⟩ : ∃ N, N = numL D := ⟨_, rfl⟩
  rw [← hN] at HR
  have HNN := Lib.hid hN
  clear hn hD hps hpl hbg hex hN
  obtain ⟨c, hcc⟩ : ∃ c, c = atL (strL s) i := ⟨_, rfl⟩
  rw [← hcc] at HC hc
  clear hcc
  have hkn : (i : Int) + (n : Int) ≤ (s.size : Int) := by omega
  rcases hc with rfl | ⟨hc0, hc1⟩
  · by_cases h1 : left - 1 < 0
    · have HR2 : Hid (valF (strL s) mny i left = (zeroJ, i, left - 1, 53)) := Lib.hid (by rw [HR.out, if_pos h1])
      clear HR
      go_enter Tryz.func32, Tryz.ntmps32
      go_wp2_with (go_at_call 55; (with_reducible refine (HC.out _).mono ?_); rintro e w' ⟨rfl, rfl⟩)
      rw [HR2.out]
      refine bodyPost_ret (v := .tuple #[.agg #[.int .i64 0, .int .i64 0, .string ⟨#[]⟩, .slice none 0 0, .slice none 0 0], .int .i64 (i : Int), .int .i64 (left - 1), .int .i64 53]) (by simp [results, Tryz.results32, go_sem]) rfl ⟨_, rfl, RepS.zero _ _, ?_⟩
      exact (Below.refl _ _).alloc (Nat.le_refl _) _

    · by_cases hn0 : n = 0
      · subst hn0
        have HR2 : Hid (valF (strL s) mny i left = (zeroJ, i + 1, left - 1, 50)) := Lib.hid (by rw [HR.out, if_neg h1, if_pos rfl])
        clear HR
        go_enter Tryz.func32, Tryz.ntmps32
        go_wp2_with (first
          | (go_at_call 55; (with_reducible refine (HC.out _).mono ?_); rintro e w' ⟨rfl, rfl⟩)
          | (go_at_call 56; (with_reducible refine (HLE.out _).mono ?_); rintro e w' ⟨rfl, rfl⟩))
        rw [HR2.out]
        refine bodyPost_ret (v := .tuple #[.agg #[.int .i64 0, .int .i64 0, .string ⟨#[]⟩, .slice none 0 0, .slice none 0 0], .int .i64 ((i : Int) + 1), .int .i64 (left - 1), .int .i64 50]) (by simp [results, Tryz.results32, go_sem]) rfl ⟨_, ?_, RepS.zero _ _, ?_⟩
        · congr 3
        · exact ((Below.refl _ _).alloc (Nat.le_refl _) _).alloc (by simp) _
      · have hnb := (beq_no (show (n : Int) ≠ 0 by omega)).1
        cases hf : fitL D (-9007199254740991) 9007199254740991 with
        | false =>
          have HR2 : Hid (valF (strL s) mny i left = (zeroJ, i, left - 1, 41)) := Lib.hid (by rw [HR.out, if_neg h1, if_neg hn0, hf, if_neg (by decide)])
          rw [show readsL D (-9007199254740991) 9007199254740991 = .tuple #[.int .i64 0, .int .i64 41, .int .i64 (-1)] by unfold readsL; rw [if_pos (HFORM.out hn0), hf, if_neg (by decide)]] at HRD
          clear HR hn0 hf
          go_enter Tryz.func32, Tryz.ntmps32
          go_wp2_with (first
            | (go_at_call 55; (with_reducible refine (HC.out _).mono ?_); rintro e w' ⟨rfl, rfl⟩)
            | (go_at_call 56; (with_reducible refine (HLE.out _).mono ?_); rintro e w' ⟨rfl, rfl⟩)
            | (go_at_call 57; (with_reducible refine (HRD.out _).mono ?_); rintro e w' ⟨rfl, rfl⟩))
          rw [HR2.out]
          refine bodyPost_ret (v := .tuple #[.agg #[.int .i64 0, .int .i64 0, .string ⟨#[]⟩, .slice none 0 0, .slice none 0 0], .int .i64 (i : Int), .int .i64 (left - 1), .int .i64 41]) (by simp [results, Tryz.results32, go_sem]) rfl ⟨_, rfl, RepS.zero _ _, ?_⟩
          exact ((Below.refl _ _).alloc (Nat.le_refl _) _).alloc (by simp) _
        | true =>
          have HR2 : Hid (valF (strL s) mny i left = (.mk 2 N ⟨#[]⟩ [] [], skipL (strL s) (i + n), left - 1, 0)) := Lib.hid (by rw [HR.out, if_neg h1, if_neg hn0, hf, if_pos rfl])
          rw [show readsL D (-9007199254740991) 9007199254740991 = .tuple #[.int .i64 N, .int .i64 0, .int .i64 (-1)] by unfold readsL; rw [if_pos (HFORM.out hn0), hf, if_pos rfl, ← HNN.out]] at HRD
          clear HR hn0 hf
          go_enter Tryz.func32, Tryz.ntmps32
          go_wp2_with (first
            | (go_at_call 55; (with_reducible refine (HC.out _).mono ?_); rintro e w' ⟨rfl, rfl⟩)
            | (go_at_call 56; (with_reducible refine (HLE.out _).mono ?_); rintro e w' ⟨rfl, rfl⟩)
            | (go_at_call 57; (with_reducible refine (HRD.out _).mono ?_); rintro e w' ⟨rfl, rfl⟩)
            | (refine wpList_store_blk rfl none rfl _ (.tmp 14) _ rfl (W.heap.size + 1) 0 [.int .i64 2, .int .i64 N, .string ⟨#[]⟩, .slice none 0 0, .slice none 0 0] rfl rfl _ _ (heap_two14 W zeros5 zeros5) (by simp [zeros5]) sizeJson (by intro v hv; simp at hv; rcases hv with rfl | rfl | rfl | rfl | rfl <;> rfl) ?_; intro w1 hb14s hgrs; rw [splice_all _ _ (by simp [zeros5])] at hb14s; have hb8s := Blk.grown (heap_two8 W zeros5 zeros5) hgrs (by simp); have HBS := Lib.hid (Below.grown (belowTwo W zeros5 zeros5) hgrs (Below.size (belowTwo W zeros5 zeros5)) (by intro k hk; injection hk with hk; omega)); clear hgrs; try go_frame))
          obtain ⟨a0, a1, a2, a3, a4⟩ : w1.cell? ⟨W.heap.size, 0, none⟩ = some (.int .i64 0) ∧ w1.cell? ⟨W.heap.size, 1, none⟩ = some (.int .i64 0) ∧ w1.cell? ⟨W.heap.size, 2, none⟩ = some (.string ⟨#[]⟩) ∧ w1.cell? ⟨W.heap.size, 3, none⟩ = some (.slice none 0 0) ∧ w1.cell? ⟨W.heap.size, 4, none⟩ = some (.slice none 0 0) := ⟨hb8s.cell 0, hb8s.cell 1, hb8s.cell 2, hb8s.cell 3, hb8s.cell 4⟩
          obtain ⟨f0, f1, f2, f3, f4⟩ : w1.frozen? ⟨W.heap.size, 0, none⟩ = false ∧ w1.frozen? ⟨W.heap.size, 1, none⟩ = false ∧ w1.frozen? ⟨W.heap.size, 2, none⟩ = false ∧ w1.frozen? ⟨W.heap.size, 3, none⟩ = false ∧ w1.frozen? ⟨W.heap.size, 4, none⟩ = false := ⟨hb8s.frozen 0, hb8s.frozen 1, hb8s.frozen 2, hb8s.frozen 3, hb8s.frozen 4⟩
          obtain ⟨b0, b1, b2, b3, b4⟩ : w1.cell? ⟨W.heap.size + 1, 0, none⟩ = some (.int .i64 2) ∧ w1.cell? ⟨W.heap.size + 1, 1, none⟩ = some (.int .i64 N) ∧ w1.cell? ⟨W.heap.size + 1, 2, none⟩ = some (.string ⟨#[]⟩) ∧ w1.cell? ⟨W.heap.size + 1, 3, none⟩ = some (.slice none 0 0) ∧ w1.cell? ⟨W.heap.size + 1, 4, none⟩ = some (.slice none 0 0) := ⟨hb14s.cell 0, hb14s.cell 1, hb14s.cell 2, hb14s.cell 3, hb14s.cell 4⟩
          go_region_law (go_simp; go_at_call 33; (with_reducible refine (HSK.out _).mono ?_); rintro e w' ⟨rfl, rfl⟩)
          all_goals
            go_wp2_with fail
            simp only [List.getElem_toArray, List.getElem_cons_succ, List.getElem_cons_zero, Act.put, List.setIfInBounds_toArray, List.set_cons_succ, List.set_cons_zero]
            obtain ⟨hA, hA2⟩ := fin5 HBS.out hb8s (.int .i64 2) (.int .i64 N) (.string ⟨#[]⟩) (.slice none 0 0) (.slice none 0 0)
            obtain ⟨hC, hC2⟩ := fin5 (below_drew HBS.out) hb8s.drew (.int .i64 2) (.int .i64 N) (.string ⟨#[]⟩) (.slice none 0 0) (.slice none 0 0)
            have hA' := hA.drew
            have hA2' := below_drew hA2
            refine bodyPost_ret (v := .tuple #[.agg #[.int .i64 2, .int .i64 N, .string ⟨#[]⟩, .slice none 0 0, .slice none 0 0], .int .i64 (skipL (strL s) (i + n) : Nat), .int .i64 (left - 1), .int .i64 0]) (results_blk4 Tryz.results32 _ _ W.heap.size _ [.int .i64 2, .int .i64 N, .string ⟨#[]⟩, .slice none 0 0, .slice none 0 0] _ rfl (by first | (with_reducible exact hA') | (with_reducible exact hC)) Tryz.underlying26 rfl sizeJson) rfl ?_
            rw [HR2.out]
            exact ⟨_, rfl, RepS.plain _ _ 2 N _ (by decide), (by first | (with_reducible exact hA2') | (with_reducible exact hC2))⟩
  · have hm45 := beq_no (show c ≠ 45 by omega)
    obtain ⟨m45, k45⟩ := hm45
    by_cases h1 : left - 1 < 0
    · have HR2 : Hid (valF (strL s) mny i left = (zeroJ, i, left - 1, 53)) := Lib.hid (by rw [HR.out, if_pos h1])
      clear HR
      go_enter Tryz.func32, Tryz.ntmps32
      go_wp2_with (go_at_call 55; (with_reducible refine (HC.out _).mono ?_); rintro e w' ⟨rfl, rfl⟩)
      rw [HR2.out]
      refine bodyPost_ret (v := .tuple #[.agg #[.int .i64 0, .int .i64 0, .string ⟨#[]⟩, .slice none 0 0, .slice none 0 0], .int .i64 (i : Int), .int .i64 (left - 1), .int .i64 53]) (by simp [results, Tryz.results32, go_sem]) rfl ⟨_, rfl, RepS.zero _ _, ?_⟩
      exact (Below.refl _ _).alloc (Nat.le_refl _) _

    · by_cases hn0 : n = 0
      · subst hn0
        have HR2 : Hid (valF (strL s) mny i left = (zeroJ, i + 1, left - 1, 50)) := Lib.hid (by rw [HR.out, if_neg h1, if_pos rfl])
        clear HR
        go_enter Tryz.func32, Tryz.ntmps32
        go_wp2_with (first
          | (go_at_call 55; (with_reducible refine (HC.out _).mono ?_); rintro e w' ⟨rfl, rfl⟩)
          | (go_at_call 56; (with_reducible refine (HLE.out _).mono ?_); rintro e w' ⟨rfl, rfl⟩))
        rw [HR2.out]
        refine bodyPost_ret (v := .tuple #[.agg #[.int .i64 0, .int .i64 0, .string ⟨#[]⟩, .slice none 0 0, .slice none 0 0], .int .i64 ((i : Int) + 1), .int .i64 (left - 1), .int .i64 50]) (by simp [results, Tryz.results32, go_sem]) rfl ⟨_, ?_, RepS.zero _ _, ?_⟩
        · congr 3
        · exact ((Below.refl _ _).alloc (Nat.le_refl _) _).alloc (by simp) _
      · have hnb := (beq_no (show (n : Int) ≠ 0 by omega)).1
        cases hf : fitL D (-9007199254740991) 9007199254740991 with
        | false =>
          have HR2 : Hid (valF (strL s) mny i left = (zeroJ, i, left - 1, 41)) := Lib.hid (by rw [HR.out, if_neg h1, if_neg hn0, hf, if_neg (by decide)])
          rw [show readsL D (-9007199254740991) 9007199254740991 = .tuple #[.int .i64 0, .int .i64 41, .int .i64 (-1)] by unfold readsL; rw [if_pos (HFORM.out hn0), hf, if_neg (by decide)]] at HRD
          clear HR hn0 hf
          go_enter Tryz.func32, Tryz.ntmps32
          go_wp2_with (first
            | (go_at_call 55; (with_reducible refine (HC.out _).mono ?_); rintro e w' ⟨rfl, rfl⟩)
            | (go_at_call 56; (with_reducible refine (HLE.out _).mono ?_); rintro e w' ⟨rfl, rfl⟩)
            | (go_at_call 57; (with_reducible refine (HRD.out _).mono ?_); rintro e w' ⟨rfl, rfl⟩))
          rw [HR2.out]
          refine bodyPost_ret (v := .tuple #[.agg #[.int .i64 0, .int .i64 0, .string ⟨#[]⟩, .slice none 0 0, .slice none 0 0], .int .i64 (i : Int), .int .i64 (left - 1), .int .i64 41]) (by simp [results, Tryz.results32, go_sem]) rfl ⟨_, rfl, RepS.zero _ _, ?_⟩
          exact ((Below.refl _ _).alloc (Nat.le_refl _) _).alloc (by simp) _
        | true =>
          have HR2 : Hid (valF (strL s) mny i left = (.mk 2 N ⟨#[]⟩ [] [], skipL (strL s) (i + n), left - 1, 0)) := Lib.hid (by rw [HR.out, if_neg h1, if_neg hn0, hf, if_pos rfl])
          rw [show readsL D (-9007199254740991) 9007199254740991 = .tuple #[.int .i64 N, .int .i64 0, .int .i64 (-1)] by unfold readsL; rw [if_pos (HFORM.out hn0), hf, if_pos rfl, ← HNN.out]] at HRD
          clear HR hn0 hf
          go_enter Tryz.func32, Tryz.ntmps32
          go_wp2_with (first
            | (go_at_call 55; (with_reducible refine (HC.out _).mono ?_); rintro e w' ⟨rfl, rfl⟩)
            | (go_at_call 56; (with_reducible refine (HLE.out _).mono ?_); rintro e w' ⟨rfl, rfl⟩)
            | (go_at_call 57; (with_reducible refine (HRD.out _).mono ?_); rintro e w' ⟨rfl, rfl⟩)
            | (refine wpList_store_blk rfl none rfl _ (.tmp 14) _ rfl (W.heap.size + 1) 0 [.int .i64 2, .int .i64 N, .string ⟨#[]⟩, .slice none 0 0, .slice none 0 0] rfl rfl _ _ (heap_two14 W zeros5 zeros5) (by simp [zeros5]) sizeJson (by intro v hv; simp at hv; rcases hv with rfl | rfl | rfl | rfl | rfl <;> rfl) ?_; intro w1 hb14s hgrs; rw [splice_all _ _ (by simp [zeros5])] at hb14s; have hb8s := Blk.grown (heap_two8 W zeros5 zeros5) hgrs (by simp); have HBS := Lib.hid (Below.grown (belowTwo W zeros5 zeros5) hgrs (Below.size (belowTwo W zeros5 zeros5)) (by intro k hk; injection hk with hk; omega)); clear hgrs; try go_frame))
          obtain ⟨a0, a1, a2, a3, a4⟩ : w1.cell? ⟨W.heap.size, 0, none⟩ = some (.int .i64 0) ∧ w1.cell? ⟨W.heap.size, 1, none⟩ = some (.int .i64 0) ∧ w1.cell? ⟨W.heap.size, 2, none⟩ = some (.string ⟨#[]⟩) ∧ w1.cell? ⟨W.heap.size, 3, none⟩ = some (.slice none 0 0) ∧ w1.cell? ⟨W.heap.size, 4, none⟩ = some (.slice none 0 0) := ⟨hb8s.cell 0, hb8s.cell 1, hb8s.cell 2, hb8s.cell 3, hb8s.cell 4⟩
          obtain ⟨f0, f1, f2, f3, f4⟩ : w1.frozen? ⟨W.heap.size, 0, none⟩ = false ∧ w1.frozen? ⟨W.heap.size, 1, none⟩ = false ∧ w1.frozen? ⟨W.heap.size, 2, none⟩ = false ∧ w1.frozen? ⟨W.heap.size, 3, none⟩ = false ∧ w1.frozen? ⟨W.heap.size, 4, none⟩ = false := ⟨hb8s.frozen 0, hb8s.frozen 1, hb8s.frozen 2, hb8s.frozen 3, hb8s.frozen 4⟩
          obtain ⟨b0, b1, b2, b3, b4⟩ : w1.cell? ⟨W.heap.size + 1, 0, none⟩ = some (.int .i64 2) ∧ w1.cell? ⟨W.heap.size + 1, 1, none⟩ = some (.int .i64 N) ∧ w1.cell? ⟨W.heap.size + 1, 2, none⟩ = some (.string ⟨#[]⟩) ∧ w1.cell? ⟨W.heap.size + 1, 3, none⟩ = some (.slice none 0 0) ∧ w1.cell? ⟨W.heap.size + 1, 4, none⟩ = some (.slice none 0 0) := ⟨hb14s.cell 0, hb14s.cell 1, hb14s.cell 2, hb14s.cell 3, hb14s.cell 4⟩
          go_region_law (go_simp; go_at_call 33; (with_reducible refine (HSK.out _).mono ?_); rintro e w' ⟨rfl, rfl⟩)
          all_goals
            go_wp2_with fail
            simp only [List.getElem_toArray, List.getElem_cons_succ, List.getElem_cons_zero, Act.put, List.setIfInBounds_toArray, List.set_cons_succ, List.set_cons_zero]
            obtain ⟨hA, hA2⟩ := fin5 HBS.out hb8s (.int .i64 2) (.int .i64 N) (.string ⟨#[]⟩) (.slice none 0 0) (.slice none 0 0)
            obtain ⟨hC, hC2⟩ := fin5 (below_drew HBS.out) hb8s.drew (.int .i64 2) (.int .i64 N) (.string ⟨#[]⟩) (.slice none 0 0) (.slice none 0 0)
            have hA' := hA.drew
            have hA2' := below_drew hA2
            refine bodyPost_ret (v := .tuple #[.agg #[.int .i64 2, .int .i64 N, .string ⟨#[]⟩, .slice none 0 0, .slice none 0 0], .int .i64 (skipL (strL s) (i + n) : Nat), .int .i64 (left - 1), .int .i64 0]) (results_blk4 Tryz.results32 _ _ W.heap.size _ [.int .i64 2, .int .i64 N, .string ⟨#[]⟩, .slice none 0 0, .slice none 0 0] _ rfl (by first | (with_reducible exact hA') | (with_reducible exact hC)) Tryz.underlying26 rfl sizeJson) rfl ?_
            rw [HR2.out]
            exact ⟨_, rfl, RepS.plain _ _ 2 N _ (by decide), (by first | (with_reducible exact hA2') | (with_reducible exact hC2))⟩
end Go.Proofs.YtblheibknpphkaaGreatDoor
namespace Go.Proofs.YtblheibknpphkaaGreatDoor
open Go Go.RowKit
set_option maxRecDepth 100000 in
set_option maxHeartbeats 4000000 in
theorem refValue_none (s : ByteArray) (hs : s.size ≤ 5000) (deep : Int) (mny : Nat → Int → VR) (i : Nat) (left : Int) (hi : i ≤ s.size) (hl0 : 0 ≤ left) (hl : left ≤ 256) (W : World) (hc : ¬ beginsV (atL (strL s) i) = true) :
    Calls Tryz.prog 32 #[.string s, .int .i64 (i : Int), .int .i64 deep, .int .i64 left] W (ValTells W (valF (strL s) mny i left)) := by
  have HC := Lib.hid (fun W : World => refByte_any s i W (by omega) (by omega))
  have HR2 : Hid (valF (strL s) mny i left = (zeroJ, i, left, 50)) := Lib.hid (by unfold valF; rw [if_pos hc])
  obtain ⟨c, hcc⟩ : ∃ c, c = atL (strL s) i := ⟨_, rfl⟩
  rw [← hcc] at HC hc
  unfold beginsV at hc
  rw [decide_eq_true_eq] at hc
  clear hcc
  obtain ⟨n0, m0⟩ := beq_no (show c ≠ 45 by omega)
  obtain ⟨n1, m1⟩ := beq_no (show c ≠ 110 by omega)
  obtain ⟨n2, m2⟩ := beq_no (show c ≠ 116 by omega)
  obtain ⟨n3, m3⟩ := beq_no (show c ≠ 102 by omega)
  obtain ⟨n4, m4⟩ := beq_no (show c ≠ 34 by omega)
  obtain ⟨n5, m5⟩ := beq_no (show c ≠ 91 by omega)
  obtain ⟨n6, m6⟩ := beq_no (show c ≠ 123 by omega)
  by_cases h48 : 48 ≤ c
  · have h57 : decide (c ≤ 57) = false := by rw [decide_eq_false_iff_not]; omega
    clear hc
    go_enter Tryz.func32, Tryz.ntmps32
    go_wp2_with (go_at_call 55; (with_reducible refine (HC.out _).mono ?_); rintro e w' ⟨rfl, rfl⟩)
    rw [HR2.out]
    refine bodyPost_ret (v := .tuple #[.agg #[.int .i64 0, .int .i64 0, .string ⟨#[]⟩, .slice none 0 0, .slice none 0 0], .int .i64 (i : Int), .int .i64 left, .int .i64 50]) (by simp [results, Tryz.results32, go_sem]) rfl ⟨_, rfl, RepS.zero _ _, ?_⟩
    exact (Below.refl _ _).alloc (Nat.le_refl _) _
  · clear hc
    go_enter Tryz.func32, Tryz.ntmps32
    go_wp2_with (go_at_call 55; (with_reducible refine (HC.out _).mono ?_); rintro e w' ⟨rfl, rfl⟩)
    rw [HR2.out]
    refine bodyPost_ret (v := .tuple #[.agg #[.int .i64 0, .int .i64 0, .string ⟨#[]⟩, .slice none 0 0, .slice none 0 0], .int .i64 (i : Int), .int .i64 left, .int .i64 50]) (by simp [results, Tryz.results32, go_sem]) rfl ⟨_, rfl, RepS.zero _ _, ?_⟩
    exact (Below.refl _ _).alloc (Nat.le_refl _) _
set_option maxRecDepth 100000 in
set_option maxHeartbeats 4000000 in
theorem refValue_list (s : ByteArray) (hs : s.size ≤ 5000) (deep : Int) (mny : Nat → Int → VR) (i : Nat) (left : Int) (hi : i ≤ s.size) (hl0 : 0 ≤ left) (hl : left ≤ 256) (W : World) (hc : atL (strL s) i = 91) (h8 : 8 < deep → mny i (left - 1) = (zeroJ, i, left - 1, 51)) (hM : ¬ 8 < deep → ¬ left - 1 < 0 → ∀ W : World, Calls Tryz.prog 60 #[.string s, .int .i64 (i : Int), .int .i64 deep, .int .i64 (left - 1)] W (ValTells W (mny i (left - 1)))) :
    Calls Tryz.prog 32 #[.string s, .int .i64 (i : Int), .int .i64 deep, .int .i64 left] W (ValTells W (valF (strL s) mny i left)) := by
  have HC := Lib.hid (fun W : World => refByte_any s i W (by omega) (by omega))
  rw [hc] at HC
  have HR : Hid (valF (strL s) mny i left = if left - 1 < 0 then (zeroJ, i, left - 1, 53) else mny i (left - 1)) := Lib.hid (by
    unfold valF; rw [hc]; rfl)
  clear hc
  by_cases h1 : left - 1 < 0
  · have HR2 : Hid (valF (strL s) mny i left = (zeroJ, i, left - 1, 53)) := Lib.hid (by rw [HR.out, if_pos h1])
    clear HR
    go_enter Tryz.func32, Tryz.ntmps32
    go_wp2_with (go_at_call 55; (with_reducible refine (HC.out _).mono ?_); rintro e w' ⟨rfl, rfl⟩)
    rw [HR2.out]
    refine bodyPost_ret (v := .tuple #[.agg #[.int .i64 0, .int .i64 0, .string ⟨#[]⟩, .slice none 0 0, .slice none 0 0], .int .i64 (i : Int), .int .i64 (left - 1), .int .i64 53]) (by simp [results, Tryz.results32, go_sem]) rfl ⟨_, rfl, RepS.zero _ _, ?_⟩
    exact (Below.refl _ _).alloc (Nat.le_refl _) _
  · by_cases hd : 8 < deep
    · have HR2 : Hid (valF (strL s) mny i left = (zeroJ, i, left - 1, 51)) := Lib.hid (by rw [HR.out, if_neg h1, h8 hd])
      clear HR h8 hM
      go_enter Tryz.func32, Tryz.ntmps32
      go_wp2_with (go_at_call 55; (with_reducible refine (HC.out _).mono ?_); rintro e w' ⟨rfl, rfl⟩)
      rw [HR2.out]
      refine bodyPost_ret (v := .tuple #[.agg #[.int .i64 0, .int .i64 0, .string ⟨#[]⟩, .slice none 0 0, .slice none 0 0], .int .i64 (i : Int), .int .i64 (left - 1), .int .i64 51]) (by simp [results, Tryz.results32, go_sem]) rfl ⟨_, rfl, RepS.zero _ _, ?_⟩
      exact ((Below.refl _ _).alloc (Nat.le_refl _) _).alloc (by simp) _
    · have HR2 : Hid (valF (strL s) mny i left = mny i (left - 1)) := Lib.hid (by rw [HR.out, if_neg h1])
      have HMM := Lib.hid (hM hd h1)
      obtain ⟨r, hr⟩ : ∃ r, r = mny i (left - 1) := ⟨_, rfl⟩
      rw [← hr] at HMM HR2
      obtain ⟨x, p, lf, er⟩ := r
      clear HR h8 hM hr
      go_enter Tryz.func32, Tryz.ntmps32
      go_wp2_with (first
        | (go_at_call 55; (with_reducible refine (HC.out _).mono ?_); rintro e w' ⟨rfl, rfl⟩)
        | (go_at_call 60; (with_reducible refine (HMM.out _).mono ?_); rintro e w1 ⟨v, rfl, hrep, hb⟩; obtain ⟨vk, A, c, rfl, _, ⟨K, d, rfl, _, _⟩, _, _⟩ := hrep.open; obtain ⟨x0, hx0⟩ : ∃ a, a = x.kind := ⟨_, rfl⟩; obtain ⟨x1, hx1⟩ : ∃ a, a = x.n := ⟨_, rfl⟩; obtain ⟨x2, hx2⟩ : ∃ a, a = x.s := ⟨_, rfl⟩; obtain ⟨x3, hx3⟩ : ∃ a, a = x.l.length := ⟨_, rfl⟩; obtain ⟨x4, hx4⟩ : ∃ a, a = x.k.length := ⟨_, rfl⟩; rw [← hx0, ← hx1, ← hx2, ← hx3, ← hx4] at hrep ⊢; have HREP := Lib.hid hrep; clear hrep hx0 hx1 hx2 hx3 hx4; have HB := Lib.hid (Below.trans (belowTwo W zeros5 zeros5) (hb.mono (Below.size (belowTwo W zeros5 zeros5)))); have hb8 := Blk.below (heap_two8 W zeros5 zeros5) hb (Blk.lt (heap_two8 W zeros5 zeros5)); clear hb)
        | (refine wpList_store_blk rfl none rfl _ (.tmp 8) _ rfl W.heap.size 0 [.int .i64 x0, .int .i64 x1, .string x2, .slice A x3 c, .slice K x4 d] rfl rfl _ _ hb8 (by simp [zeros5]) sizeJson (by intro v hv; simp at hv; rcases hv with rfl | rfl | rfl | rfl | rfl <;> rfl) ?_; intro w5 hb5 hgr; rw [splice_all _ _ (by simp [zeros5])] at hb5; have HB5 := Lib.hid (Below.grown HB.out hgr (Below.size HB.out) (by intro k hk; injection hk with hk; omega)); have HG5 := Lib.hid hgr; clear hgr; try go_frame))
      refine bodyPost_ret (v := .tuple #[.agg #[.int .i64 x0, .int .i64 x1, .string x2, .slice A x3 c, .slice K x4 d], .int .i64 (p : Int), .int .i64 lf, .int .i64 er]) (results_blk4 Tryz.results32 _ _ W.heap.size _ [.int .i64 x0, .int .i64 x1, .string x2, .slice A x3 c, .slice K x4 d] _ rfl hb5 Tryz.underlying26 rfl sizeJson) rfl ?_
      rw [HR2.out]
      exact ⟨_, rfl, RepS.keeps (Keeps.grown HG5.out (fun b hb e => by injection e with e; simp at hb; omega)) (fun b hb _ => by simp at hb; omega) _ _ HREP.out, HB5.out⟩
set_option maxRecDepth 100000 in
set_option maxHeartbeats 4000000 in
theorem refValue_obj (s : ByteArray) (hs : s.size ≤ 5000) (deep : Int) (mny : Nat → Int → VR) (i : Nat) (left : Int) (hi : i ≤ s.size) (hl0 : 0 ≤ left) (hl : left ≤ 256) (W : World) (hc : atL (strL s) i = 123) (h8 : 8 < deep → mny i (left - 1) = (zeroJ, i, left - 1, 51)) (hM : ¬ 8 < deep → ¬ left - 1 < 0 → ∀ W : World, Calls Tryz.prog 60 #[.string s, .int .i64 (i : Int), .int .i64 deep, .int .i64 (left - 1)] W (ValTells W (mny i (left - 1)))) :
    Calls Tryz.prog 32 #[.string s, .int .i64 (i : Int), .int .i64 deep, .int .i64 left] W (ValTells W (valF (strL s) mny i left)) := by
  have HC := Lib.hid (fun W : World => refByte_any s i W (by omega) (by omega))
  rw [hc] at HC
  have HR : Hid (valF (strL s) mny i left = if left - 1 < 0 then (zeroJ, i, left - 1, 53) else mny i (left - 1)) := Lib.hid (by
    unfold valF; rw [hc]; rfl)
  clear hc
  by_cases h1 : left - 1 < 0
  · have HR2 : Hid (valF (strL s) mny i left = (zeroJ, i, left - 1, 53)) := Lib.hid (by rw [HR.out, if_pos h1])
    clear HR
    go_enter Tryz.func32, Tryz.ntmps32
    go_wp2_with (go_at_call 55; (with_reducible refine (HC.out _).mono ?_); rintro e w' ⟨rfl, rfl⟩)
    rw [HR2.out]
    refine bodyPost_ret (v := .tuple #[.agg #[.int .i64 0, .int .i64 0, .string ⟨#[]⟩, .slice none 0 0, .slice none 0 0], .int .i64 (i : Int), .int .i64 (left - 1), .int .i64 53]) (by simp [results, Tryz.results32, go_sem]) rfl ⟨_, rfl, RepS.zero _ _, ?_⟩
    exact (Below.refl _ _).alloc (Nat.le_refl _) _
  · by_cases hd : 8 < deep
    · have HR2 : Hid (valF (strL s) mny i left = (zeroJ, i, left - 1, 51)) := Lib.hid (by rw [HR.out, if_neg h1, h8 hd])
      clear HR h8 hM
      go_enter Tryz.func32, Tryz.ntmps32
      go_wp2_with (go_at_call 55; (with_reducible refine (HC.out _).mono ?_); rintro e w' ⟨rfl, rfl⟩)
      rw [HR2.out]
      refine bodyPost_ret (v := .tuple #[.agg #[.int .i64 0, .int .i64 0, .string ⟨#[]⟩, .slice none 0 0, .slice none 0 0], .int .i64 (i : Int), .int .i64 (left - 1), .int .i64 51]) (by simp [results, Tryz.results32, go_sem]) rfl ⟨_, rfl, RepS.zero _ _, ?_⟩
      exact ((Below.refl _ _).alloc (Nat.le_refl _) _).alloc (by simp) _
    · have HR2 : Hid (valF (strL s) mny i left = mny i (left - 1)) := Lib.hid (by rw [HR.out, if_neg h1])
      have HMM := Lib.hid (hM hd h1)
      obtain ⟨r, hr⟩ : ∃ r, r = mny i (left - 1) := ⟨_, rfl⟩
      rw [← hr] at HMM HR2
      obtain ⟨x, p, lf, er⟩ := r
      clear HR h8 hM hr
      go_enter Tryz.func32, Tryz.ntmps32
      go_wp2_with (first
        | (go_at_call 55; (with_reducible refine (HC.out _).mono ?_); rintro e w' ⟨rfl, rfl⟩)
        | (go_at_call 60; (with_reducible refine (HMM.out _).mono ?_); rintro e w1 ⟨v, rfl, hrep, hb⟩; obtain ⟨vk, A, c, rfl, _, ⟨K, d, rfl, _, _⟩, _, _⟩ := hrep.open; obtain ⟨x0, hx0⟩ : ∃ a, a = x.kind := ⟨_, rfl⟩; obtain ⟨x1, hx1⟩ : ∃ a, a = x.n := ⟨_, rfl⟩; obtain ⟨x2, hx2⟩ : ∃ a, a = x.s := ⟨_, rfl⟩; obtain ⟨x3, hx3⟩ : ∃ a, a = x.l.length := ⟨_, rfl⟩; obtain ⟨x4, hx4⟩ : ∃ a, a = x.k.length := ⟨_, rfl⟩; rw [← hx0, ← hx1, ← hx2, ← hx3, ← hx4] at hrep ⊢; have HREP := Lib.hid hrep; clear hrep hx0 hx1 hx2 hx3 hx4; have HB := Lib.hid (Below.trans (belowTwo W zeros5 zeros5) (hb.mono (Below.size (belowTwo W zeros5 zeros5)))); have hb8 := Blk.below (heap_two8 W zeros5 zeros5) hb (Blk.lt (heap_two8 W zeros5 zeros5)); clear hb)
        | (refine wpList_store_blk rfl none rfl _ (.tmp 8) _ rfl W.heap.size 0 [.int .i64 x0, .int .i64 x1, .string x2, .slice A x3 c, .slice K x4 d] rfl rfl _ _ hb8 (by simp [zeros5]) sizeJson (by intro v hv; simp at hv; rcases hv with rfl | rfl | rfl | rfl | rfl <;> rfl) ?_; intro w5 hb5 hgr; rw [splice_all _ _ (by simp [zeros5])] at hb5; have HB5 := Lib.hid (Below.grown HB.out hgr (Below.size HB.out) (by intro k hk; injection hk with hk; omega)); have HG5 := Lib.hid hgr; clear hgr; try go_frame))
      refine bodyPost_ret (v := .tuple #[.agg #[.int .i64 x0, .int .i64 x1, .string x2, .slice A x3 c, .slice K x4 d], .int .i64 (p : Int), .int .i64 lf, .int .i64 er]) (results_blk4 Tryz.results32 _ _ W.heap.size _ [.int .i64 x0, .int .i64 x1, .string x2, .slice A x3 c, .slice K x4 d] _ rfl hb5 Tryz.underlying26 rfl sizeJson) rfl ?_
      rw [HR2.out]
      exact ⟨_, rfl, RepS.keeps (Keeps.grown HG5.out (fun b hb e => by injection e with e; simp at hb; omega)) (fun b hb _ => by simp at hb; omega) _ _ HREP.out, HB5.out⟩
end Go.Proofs.YtblheibknpphkaaGreatDoor
namespace Go.Proofs.YtblheibknpphkaaGreatDoor
open Go Go.RowKit
theorem refValue_of (s : ByteArray) (hs : s.size ≤ 5000) (deep : Int) (mny : Nat → Int → VR) (i : Nat) (left : Int) (hi : i ≤ s.size) (hl0 : 0 ≤ left) (hl : left ≤ 256) (W : World)
    (h8 : 8 < deep → mny i (left - 1) = (zeroJ, i, left - 1, 51)) (hM : atL (strL s) i = 91 ∨ atL (strL s) i = 123 → ¬ 8 < deep → i < s.size → 0 ≤ left - 1 → ∀ W : World, Calls Tryz.prog 60 #[.string s, .int .i64 (i : Int), .int .i64 deep, .int .i64 (left - 1)] W (ValTells W (mny i (left - 1)))) :
    Calls Tryz.prog 32 #[.string s, .int .i64 (i : Int), .int .i64 deep, .int .i64 left] W (ValTells W (valF (strL s) mny i left)) := by
  have hlt : atL (strL s) i ≠ -1 → i < s.size := fun h => by rw [← length_strL]; exact atL_lt h
  by_cases hb : beginsV (atL (strL s) i) = true
  · have hc : atL (strL s) i = 45 ∨ (48 ≤ atL (strL s) i ∧ atL (strL s) i ≤ 57) ∨ atL (strL s) i = 110 ∨ atL (strL s) i = 116 ∨ atL (strL s) i = 102 ∨ atL (strL s) i = 34 ∨ atL (strL s) i = 91 ∨ atL (strL s) i = 123 := by
      unfold beginsV at hb; rw [decide_eq_true_eq] at hb; exact hb
    have hm : (atL (strL s) i = 91 ∨ atL (strL s) i = 123) → ¬ 8 < deep → ∀ W : World, left - 1 < 0 ∨ Calls Tryz.prog 60 #[.string s, .int .i64 (i : Int), .int .i64 deep, .int .i64 (left - 1)] W (ValTells W (mny i (left - 1))) := fun h hd W => by
      by_cases h1 : left - 1 < 0
      · exact .inl h1
      · exact .inr (hM h hd (hlt (by omega)) (by omega) W)
    rcases hc with h | h | h | h | h | h | h | h
    · exact refValue_num s hs deep mny i left hi hl0 hl W (.inl h)
    · exact refValue_num s hs deep mny i left hi hl0 hl W (.inr h)
    · exact refValue_null s hs deep mny i left hi hl0 hl W h
    · exact refValue_true s hs deep mny i left hi hl0 hl W h
    · exact refValue_false s hs deep mny i left hi hl0 hl W h
    · exact refValue_text s hs deep mny i left hi hl0 hl W h
    · exact refValue_list s hs deep mny i left hi hl0 hl W h h8 (fun hd hn W => (hm (.inl h) hd W).resolve_left hn)
    · exact refValue_obj s hs deep mny i left hi hl0 hl W h h8 (fun hd hn W => (hm (.inr h) hd W).resolve_left hn)
  · exact refValue_none s hs deep mny i left hi hl0 hl W hb
end Go.Proofs.YtblheibknpphkaaGreatDoor
