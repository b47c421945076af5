/- LxTok, LxToks, LxBackM, PolMath, PolFit, PolComp, PolRules, PolSaid, PolData: merged. -/
import Derived.Maps.OwnSet
import Derived.Test.YtcjfealalokjaaaGreatDoorPa08
import Derived.Test.YtcjfealalokjaaaGreatDoorPa10
set_option linter.all false
namespace Go.Proofs.YtcjfealalokjaaaGreatDoor
open Go Go.RowKit
theorem sizeInt : (Tryz.prog.info? 3).map (·.size) = some 1 := by kernel_rfl
theorem sizeTok : (Tryz.prog.info? 59).map (·.size) = some 4 := by kernel_rfl
theorem zeroTok : (Tryz.prog.info? 59).map (·.zero) = some (some (.agg #[.int .i64 0, .string ⟨#[]⟩, .int .i64 0, .int .i64 0])) := by kernel_rfl
theorem sizeStr : (Tryz.prog.info? 9).map (·.size) = some 1 := by kernel_rfl
theorem sizeI64 : (Tryz.prog.info? 2).map (·.size) = some 1 := by kernel_rfl
theorem tok_cells {w : World} {g : Nat} {a b c d : Value} (h : Blk w g 59 [a, b, c, d]) : w.cell? ⟨g, 0, none⟩ = some a ∧ w.cell? ⟨g, 1, none⟩ = some b ∧ w.cell? ⟨g, 2, none⟩ = some c ∧ w.cell? ⟨g, 3, none⟩ = some d := ⟨h.cell 0, h.cell 1, h.cell 2, h.cell 3⟩
theorem grown_above {w A A' : World} {row : Option Nat} {g : Nat} (h : w.grownBy A row) (k : A.grownBy A' (some g)) (hg : w.heap.size ≤ g) : w.grownBy A' row :=
  ⟨k.os.trans h.os, k.tape.trans h.tape, k.output.trans h.output, Nat.le_trans h.size k.size, fun i hi hr => (k.block i (Nat.lt_of_lt_of_le hi h.size) (fun e => by injection e with e; omega)).trans (h.block i hi hr)⟩
theorem AtE.grownG {pos n : Int} {w W W' : World} {v : Value} {g : Nat} (h : AtE pos n w v W) (k : W.grownBy W' (some g)) (hg : g < w.heap.size) : AtE pos n w v W' := by
  obtain ⟨b, e, h0, h1, h2⟩ := h
  have hlt : b < W.heap.size := lt_of_cell h0
  have hb := k.block b hlt (fun e => by injection e with e; omega)
  exact ⟨b, e, (World.cell?_of_block (a := ⟨b, 0, none⟩) hb).trans h0, (World.cell?_of_block (a := ⟨b, 0 + 1, none⟩) hb).trans h1, h2⟩
/-- The token ahead, and its kind. -/
theorem kind_cases (l : List Int) : (l = [] ∧ kindL l = 5 ∧ tokL l = ⟨0, 0, 5, [], 0, 0⟩) ∨
    (32 < wordN l ∧ kindL l = 1 ∧ tokL l = ⟨110, 0, 1, [], 0, 0⟩) ∨ (¬ 32 < wordN l ∧ kindL l = 1 ∧ tokL l = ⟨0, 0, 1, l.take (wordN l), 0, wordN l⟩) ∨
    (∃ r, l = 34 :: r ∧ kindL l = 2 ∧ (quotN r).2.2 = true ∧ tokL l = ⟨0, 0, 2, (quotN r).1, 0, (quotN r).2.1 + 1⟩) ∨
    (∃ r, l = 34 :: r ∧ kindL l = 2 ∧ (quotN r).2.2 = false ∧ tokL l = ⟨110, (quotN r).2.1 + 1, 2, [], 0, 0⟩) ∨
    (leadL l ≠ 0 ∧ kindL l = 3 ∧ fitL (l.take (leadL l)) (-9007199254740991) 9007199254740991 = false ∧ tokL l = ⟨41, 0, 3, [], 0, 0⟩) ∨
    (leadL l ≠ 0 ∧ kindL l = 3 ∧ fitL (l.take (leadL l)) (-9007199254740991) 9007199254740991 = true ∧ tokL l = ⟨0, 0, 3, [], numL (l.take (leadL l)), leadL l⟩) ∨
    (0 < signN l ∧ kindL l = 4 ∧ tokL l = ⟨0, 0, 4, l.take (signN l), 0, signN l⟩) ∨
    (kindL l = 0 ∧ tokL l = ⟨110, 0, 0, [], 0, 0⟩) := by
  cases l with
  | nil => exact .inl ⟨rfl, rfl, rfl⟩
  | cons c r =>
    have hk : kindL (c :: r) = if 0 < wordN (c :: r) then 1 else if c = 34 then 2 else if 0 < leadL (c :: r) then 3 else if 0 < signN (c :: r) then 4 else 0 := by
      unfold kindL; rw [if_neg (by simp), List.getD_cons_zero]
    rw [hk, tokL_cons]
    cases hs : smallC c with
    | true =>
      have hw : 0 < wordN (c :: r) := by rw [wordN_go hs]; omega
      rw [if_pos hw, if_pos rfl]
      by_cases h : 32 < wordN (c :: r)
      · rw [if_pos h]; exact .inr (.inl ⟨h, rfl, rfl⟩)
      · rw [if_neg h]; exact .inr (.inr (.inl ⟨h, rfl, rfl⟩))
    | false =>
      rw [if_neg (show ¬ 0 < wordN (c :: r) by rw [wordN_stop hs]; omega), if_neg (show ¬ (false = true) by decide)]
      by_cases h34 : c = 34
      · subst h34
        rw [if_pos rfl, if_pos rfl]
        cases hq : (quotN r).2.2 with
        | true => rw [if_pos rfl]; exact .inr (.inr (.inr (.inl ⟨r, rfl, rfl, hq, rfl⟩)))
        | false => rw [if_neg (by decide)]; exact .inr (.inr (.inr (.inr (.inl ⟨r, rfl, rfl, hq, rfl⟩))))
      · rw [if_neg h34, if_neg h34]
        by_cases hl : 0 < leadL (c :: r)
        · rw [if_pos hl, if_pos hl]
          cases hf : fitL ((c :: r).take (leadL (c :: r))) (-9007199254740991) 9007199254740991 with
          | true => rw [if_pos rfl]; exact .inr (.inr (.inr (.inr (.inr (.inr (.inl ⟨by omega, rfl, rfl, rfl⟩))))))
          | false => rw [if_neg (by decide)]; exact .inr (.inr (.inr (.inr (.inr (.inl ⟨by omega, rfl, rfl, rfl⟩)))))
        · rw [if_neg hl, if_neg hl]
          by_cases hg : 0 < signN (c :: r)
          · rw [if_pos hg, if_pos hg]; exact .inr (.inr (.inr (.inr (.inr (.inr (.inr (.inl ⟨hg, rfl, rfl⟩)))))))
          · rw [if_neg hg, if_neg hg]; exact .inr (.inr (.inr (.inr (.inr (.inr (.inr (.inr ⟨rfl, rfl⟩)))))))
theorem quote_at {s : ByteArray} {P : Nat} {c : Int} {r : List Int} (h : (strL s).drop P = c :: r) : r = (strL s).drop (P + 1) ∧ P < s.size := by
  refine ⟨(ahN_cons h).2, ?_⟩
  rcases Nat.lt_or_ge P s.size with h' | h'
  · exact h'
  · rw [List.drop_eq_nil_of_le (by rw [length_strL]; exact h')] at h; cases h
/-- What token tells. -/
def TokTells (w : World) (b : Nat) (s : ByteArray) (P : Nat) (t : TokR) (e : Ending) (w' : World) : Prop :=
  (t.err ≠ 0 ∧ ∃ k2 s2 n2 p2 v, e = .returned (.tuple #[.agg #[.int .i64 k2, .string s2, .int .i64 n2, .int .i64 p2], v]) ∧ AtE ((P + t.off : Nat) : Int) t.err w v w' ∧ w.grownBy w' (some b)) ∨
  (t.err = 0 ∧ e = .returned (.tuple #[.agg #[.int .i64 t.kind, .string (toS t.text), .int .i64 t.num, .int .i64 (P : Int)], .nilIface]) ∧ MovedS w w' b s (P + t.size))
set_option maxRecDepth 100000 in
set_option maxHeartbeats 8000000 in
theorem token_any (b : Nat) (s : ByteArray) (P : Nat) (w : World) (hM : Marks w) (h : ScAt w b s P) (hp : P ≤ s.size) (hs : s.size ≤ 1000000) :
    Calls Tryz.prog 52 #[.pointer (some ⟨b, 0, none⟩)] w (TokTells w b s P (tokL ((strL s).drop P))) := by
  have HM := Lib.hid hM
  have HSC := Lib.hid h
  have hbl := h.lt
  have HRE := Lib.hid (fun (W : World) (hW : ScAt W b s P) => rest_any b s P W hW hp (by omega))
  have HKI := Lib.hid (fun W : World => kindOf_any (aheadS s P) W (by rw [aheadS_size]; omega))
  rw [aheadS_L] at HKI
  obtain ⟨κ, hκ⟩ : ∃ κ, κ = kindL ((strL s).drop P) := ⟨_, rfl⟩
  rw [← hκ] at HKI
  have HK := Lib.hid hκ
  clear h hM hκ
  go_enter Tryz.func52, Tryz.ntmps52
  go_wp2_with (first | (refine wpList_alloc_blk rfl (some 2) rfl _ rfl _ zeroTok ?_; intro g w1 hg1 hb1 hgr1; have HG1 := Lib.hid hg1; have HB1 := Lib.hid hb1; have HW1 := Lib.hid (show Below w.heap.size w w1 from (Below.refl _ w).grown hgr1 (Nat.le_refl _) (by simp)); clear hgr1 hb1))
  have HS1 := Lib.hid (show ScAt w1 b s P from Blk.below HSC.out HW1.out hbl)
  have hc1 : w1.cell? ⟨b, 1, none⟩ = some (.int .i64 (P : Int)) := (ScAt.cells HS1.out).2.1
  refine wp_region_held_drew (S := fun X => X.cell? ⟨b, 1, none⟩ = some (.int .i64 (P : Int))) (by kernel_rfl) hc1 (fun hHeld => ?_)
  refine rgT 0 ?_
  try simp only [rgS]
  refine rgT 3 ?_
  try simp only [rgS]
  refine rgT 4 ?_
  try simp only [rgS]
  refine rgT 5 ?_
  try simp only [rgS]
  refine rgT 6 ?_
  try simp only [rgS]
  refine rgO 1 (fun K hK => ?_)
  go_simp
  (with_reducible refine (HRE.out _ HS1.out.drew).mono ?_)
  rintro e w2 ⟨rfl, q2, rfl⟩
  refine hK.out _ _ hc1 (fun hH2 => ?_)
  clear hK K hHeld
  try simp only [rgS]
  refine rgO 2 (fun K hK => ?_)
  go_simp
  (with_reducible refine (HKI.out _).mono ?_)
  rintro e w3 ⟨rfl, hb3⟩
  have HB3 := Lib.hid (show Below w1.heap.size w1 w3 from (below_drewN (Below.refl _ w1) _).trans hb3)
  have hc3 : w3.cell? ⟨b, 1, none⟩ = some (.int .i64 (P : Int)) := (HB3.out.cell (p := ⟨b, 1, none⟩) HS1.out.lt).trans hc1
  refine hK.out _ _ hc3 (fun hH3 => ?_)
  have HT3 := Lib.hid (show Blk w3 g 59 _ from Blk.below HB1.out HB3.out HB1.out.lt)
  clear hK K hH2 hb3
  try simp only [rgS]
  refine rgT 7 ?_
  try simp only [rgS]
  refine rgO 8 (fun K hK => ?_)
  rw [if_pos (by kernel_rfl)]
  refine wp_store_one 3 (.tmp 11) (.tmp 6) rfl g 0 (.int .i64 κ) rfl rfl rfl _ _ HT3.out (by simp) sizeInt ?_
  intro w4 hk4 hg4
  have hgb : g ≠ b := by have := HG1.out; omega
  have hb3l : b < w3.heap.size := Nat.lt_of_lt_of_le HS1.out.lt HB3.out.size
  have hc4 : w4.cell? ⟨b, 1, none⟩ = some (.int .i64 (P : Int)) := (World.cell?_of_block (a := ⟨b, 1, none⟩) (hg4.block b hb3l (fun e => hgb (Option.some.inj e).symm))).trans hc3
  refine hK.out _ _ hc4 (fun hH4 => ?_)
  clear hK K hH3
  have HK4 := Lib.hid hk4
  have HG4 := Lib.hid hg4
  clear hk4 hg4
  try simp only [rgS]
  refine rgT 9 ?_
  try simp only [rgS]
  refine rgO 10 (fun K hK => ?_)
  rw [if_pos (by kernel_rfl)]
  refine wp_store_one 3 (.tmp 12) (.tmp 10) rfl g 3 (.int .i64 (P : Int)) rfl rfl rfl _ _ HK4.out (by simp) sizeInt ?_
  intro w5 hk5 hg5
  have hb4l : b < w4.heap.size := Nat.lt_of_lt_of_le hb3l HG4.out.size
  have hc5 : w5.cell? ⟨b, 1, none⟩ = some (.int .i64 (P : Int)) := (World.cell?_of_block (a := ⟨b, 1, none⟩) (hg5.block b hb4l (fun e => hgb (Option.some.inj e).symm))).trans hc4
  refine hK.out _ _ hc5 (fun hH5 => ?_)
  clear hK K hH4
  have HT := Lib.hid (show Blk w5 g 59 [.int .i64 κ, .string ⟨#[]⟩, .int .i64 0, .int .i64 (P : Int)] from hk5)
  have HB5 := Lib.hid (show Below w.heap.size w w5 from ((HW1.out.trans (HB3.out.mono HW1.out.size)).grown HG4.out (Nat.le_trans HW1.out.size HB3.out.size) (by intro k hk; injection hk with hk; have := HG1.out; omega)).grown hg5 (Nat.le_trans (Nat.le_trans HW1.out.size HB3.out.size) HG4.out.size) (by intro k hk; injection hk with hk; have := HG1.out; omega))
  have HS5 := Lib.hid (show ScAt w5 b s P from Blk.below HSC.out HB5.out hbl)
  have HM5 := Lib.hid (HM.out.below HB5.out)
  clear hk5 hg5 hc1 hc3 hc4 hc5 HK4 HG4 HT3 HB3 HB1 HS1 HKI HRE
  try simp only [rgS]
  refine wpAnyH_done (by kernel_rfl) ?_ _
  rcases kind_cases ((strL s).drop P) with ⟨_, hk', htok⟩ | ⟨hw, hk', htok⟩ | ⟨hw, hk', htok⟩ | ⟨r, hr, hk', hq, htok⟩ | ⟨r, hr, hk', hq, htok⟩ | ⟨hl, hk', hq, htok⟩ | ⟨hl, hk', hq, htok⟩ | ⟨hl, hk', htok⟩ | ⟨hk', htok⟩
  all_goals have hk := HK.out.trans hk'
  all_goals clear hk'
  · -- the end
    subst hk
    have z0 := HT.out.cell 0
    have z1 := HT.out.cell 1
    have z2 := HT.out.cell 2
    have z3 := HT.out.cell 3
    simp only [List.getElem?_cons_zero, List.getElem?_cons_succ] at z0 z1 z2 z3
    go_wp2_with (first | (refine wpList_store_blk rfl none rfl _ (.tmp 2) (.tmp 52) rfl g 0 [.int .i64 5, .string ⟨#[]⟩, .int .i64 0, .int .i64 (P : Int)] rfl rfl _ _ HT.out (by simp) sizeTok (by intro v hv; simp at hv; rcases hv with rfl | rfl | rfl | rfl <;> rfl) ?_; intro w9 hb9 hg9; rw [splice_all _ _ rfl] at hb9; have HT9 := Lib.hid hb9; have HG9 := Lib.hid hg9; clear hb9 hg9; try go_frame))
    (try simp only [Exit.inBlock, Exit.then])
    have r0 := HT9.out.cell 0
    have r1 := HT9.out.cell 1
    have r2 := HT9.out.cell 2
    have r3 := HT9.out.cell 3
    refine bodyPost_ret (v := .tuple #[.agg #[.int .i64 5, .string ⟨#[]⟩, .int .i64 0, .int .i64 (P : Int)], .nilIface]) ?_ rfl ?_
    · rw [results_cell_tmp rfl]; go_simp <;> rfl
    · rw [htok]
      refine .inr ⟨rfl, rfl, ?_, ?_⟩
      · exact grown_above (grownBy_of_below HB5.out _) HG9.out HG1.out
      · exact Blk.grown (show ScAt w5 b s (P + 0) from HS5.out) HG9.out (fun e => hgb (Option.some.inj e).symm)
  · -- a word too long
    subst hk
    have HC := Lib.hid (word_long b s P w5 HS5.out hp (by omega) hw)
    have z0 := HT.out.cell 0
    have z1 := HT.out.cell 1
    have z2 := HT.out.cell 2
    have z3 := HT.out.cell 3
    simp only [List.getElem?_cons_zero, List.getElem?_cons_succ] at z0 z1 z2 z3
    go_wp2_with fail
    refine HC.out.mono ?_
    rintro e w6 ⟨v, rfl, hv, hb6⟩
    have HG6 := Lib.hid (grownBy_of_below hb6 (some b))
    have HT6 := Lib.hid (HT.out.below hb6 HT.out.lt)
    have HV := Lib.hid hv
    clear hb6 hv
    obtain ⟨z0, z1, z2, z3⟩ := tok_cells HT6.out
    go_wp2_with (first | (refine wpList_store_cell rfl none rfl _ (.tmp 25) (.tmp 23) rfl g 1 (.string ⟨#[]⟩) rfl rfl rfl _ _ HT6.out (by simp) sizeStr ?_; intro w7 hb7 hg7; have HT7 := Lib.hid (show Blk w7 g 59 [.int .i64 1, .string ⟨#[]⟩, .int .i64 0, .int .i64 (P : Int)] from hb7); have HG7 := Lib.hid hg7; obtain ⟨z0, z1, z2, z3⟩ := tok_cells HT7.out; clear hb7 hg7; try go_frame) | (refine wpList_store_blk rfl none rfl _ (.tmp 2) (.tmp 52) rfl g 0 [.int .i64 1, .string ⟨#[]⟩, .int .i64 0, .int .i64 (P : Int)] rfl rfl _ _ HT7.out (by simp) sizeTok (by intro v hv; simp at hv; rcases hv with rfl | rfl | rfl | rfl <;> rfl) ?_; intro w9 hb9 hg9; rw [splice_all _ _ rfl] at hb9; have HT9 := Lib.hid hb9; have HG9 := Lib.hid hg9; clear hb9 hg9; try go_frame))
    (try simp only [Exit.inBlock, Exit.then])
    have r0 := HT9.out.cell 0
    have r1 := HT9.out.cell 1
    have r2 := HT9.out.cell 2
    have r3 := HT9.out.cell 3
    refine bodyPost_ret (v := .tuple #[.agg #[.int .i64 1, .string ⟨#[]⟩, .int .i64 0, .int .i64 (P : Int)], v]) ?_ rfl ?_
    · rw [results_cell_tmp rfl]; go_simp <;> rfl
    · rw [htok]
      refine .inl ⟨(by intro h; cases h), _, _, _, _, _, rfl, ?_, ?_⟩
      · exact AtE.low (AtE.grownG (AtE.grownG (HV.out) HG7.out HT.out.lt) HG9.out HT.out.lt) HB5.out.size
      · exact grown_above (grown_above ((grownBy_of_below HB5.out (some b)).trans HG6.out) HG7.out HG1.out) HG9.out HG1.out
  · -- a word
    subst hk
    have HC := Lib.hid (word_ok b s P w5 HS5.out hp (by omega) hw)
    have z0 := HT.out.cell 0
    have z1 := HT.out.cell 1
    have z2 := HT.out.cell 2
    have z3 := HT.out.cell 3
    simp only [List.getElem?_cons_zero, List.getElem?_cons_succ] at z0 z1 z2 z3
    go_wp2_with fail
    refine HC.out.mono ?_
    rintro e w6 ⟨rfl, hg6, hs6⟩
    have HG6 := Lib.hid hg6
    have HT6 := Lib.hid (HT.out.grown hg6 (fun e => hgb (Option.some.inj e)))
    have HS6 := Lib.hid hs6
    clear hg6 hs6
    obtain ⟨z0, z1, z2, z3⟩ := tok_cells HT6.out
    go_wp2_with (first | (refine wpList_store_cell rfl none rfl _ (.tmp 25) (.tmp 23) rfl g 1 (.string (toS (((strL s).drop P).take (wordN ((strL s).drop P))))) rfl rfl rfl _ _ HT6.out (by simp) sizeStr ?_; intro w7 hb7 hg7; have HT7 := Lib.hid (show Blk w7 g 59 [.int .i64 1, .string (toS (((strL s).drop P).take (wordN ((strL s).drop P)))), .int .i64 0, .int .i64 (P : Int)] from hb7); have HG7 := Lib.hid hg7; obtain ⟨z0, z1, z2, z3⟩ := tok_cells HT7.out; clear hb7 hg7; try go_frame) | (refine wpList_store_blk rfl none rfl _ (.tmp 2) (.tmp 52) rfl g 0 [.int .i64 1, .string (toS (((strL s).drop P).take (wordN ((strL s).drop P)))), .int .i64 0, .int .i64 (P : Int)] rfl rfl _ _ HT7.out (by simp) sizeTok (by intro v hv; simp at hv; rcases hv with rfl | rfl | rfl | rfl <;> rfl) ?_; intro w9 hb9 hg9; rw [splice_all _ _ rfl] at hb9; have HT9 := Lib.hid hb9; have HG9 := Lib.hid hg9; clear hb9 hg9; try go_frame))
    (try simp only [Exit.inBlock, Exit.then])
    have r0 := HT9.out.cell 0
    have r1 := HT9.out.cell 1
    have r2 := HT9.out.cell 2
    have r3 := HT9.out.cell 3
    refine bodyPost_ret (v := .tuple #[.agg #[.int .i64 1, .string (toS (((strL s).drop P).take (wordN ((strL s).drop P)))), .int .i64 0, .int .i64 (P : Int)], .nilIface]) ?_ rfl ?_
    · rw [results_cell_tmp rfl]; go_simp <;> rfl
    · rw [htok]
      refine .inr ⟨rfl, rfl, ?_, ?_⟩
      · exact grown_above (grown_above ((grownBy_of_below HB5.out (some b)).trans HG6.out) HG7.out HG1.out) HG9.out HG1.out
      · exact Blk.grown (Blk.grown (HS6.out) HG7.out (fun e => hgb (Option.some.inj e).symm)) HG9.out (fun e => hgb (Option.some.inj e).symm)
  · -- a text
    subst hk
    obtain ⟨hr2, hpl⟩ := quote_at hr
    rw [hr2] at hq htok
    clear hr hr2
    have HC := Lib.hid (quoted_any b s P w5 HM5.out HS5.out hpl hs)
    unfold QuTells at HC
    rw [hq] at HC
    have z0 := HT.out.cell 0
    have z1 := HT.out.cell 1
    have z2 := HT.out.cell 2
    have z3 := HT.out.cell 3
    simp only [List.getElem?_cons_zero, List.getElem?_cons_succ] at z0 z1 z2 z3
    go_wp2_with fail
    refine HC.out.mono ?_
    rintro e w6 (⟨_, rfl, hg6, hs6⟩ | ⟨h, _⟩)
    case inr => cases h
    have HG6 := Lib.hid hg6
    have HT6 := Lib.hid (HT.out.grown hg6 (fun e => hgb (Option.some.inj e)))
    have HS6 := Lib.hid hs6
    clear hg6 hs6
    obtain ⟨z0, z1, z2, z3⟩ := tok_cells HT6.out
    go_wp2_with (first | (refine wpList_store_cell rfl none rfl _ (.tmp 33) (.tmp 31) rfl g 1 (.string (toS (quotN ((strL s).drop (P + 1))).1)) rfl rfl rfl _ _ HT6.out (by simp) sizeStr ?_; intro w7 hb7 hg7; have HT7 := Lib.hid (show Blk w7 g 59 [.int .i64 2, .string (toS (quotN ((strL s).drop (P + 1))).1), .int .i64 0, .int .i64 (P : Int)] from hb7); have HG7 := Lib.hid hg7; obtain ⟨z0, z1, z2, z3⟩ := tok_cells HT7.out; clear hb7 hg7; try go_frame) | (refine wpList_store_blk rfl none rfl _ (.tmp 2) (.tmp 52) rfl g 0 [.int .i64 2, .string (toS (quotN ((strL s).drop (P + 1))).1), .int .i64 0, .int .i64 (P : Int)] rfl rfl _ _ HT7.out (by simp) sizeTok (by intro v hv; simp at hv; rcases hv with rfl | rfl | rfl | rfl <;> rfl) ?_; intro w9 hb9 hg9; rw [splice_all _ _ rfl] at hb9; have HT9 := Lib.hid hb9; have HG9 := Lib.hid hg9; clear hb9 hg9; try go_frame))
    (try simp only [Exit.inBlock, Exit.then])
    have r0 := HT9.out.cell 0
    have r1 := HT9.out.cell 1
    have r2 := HT9.out.cell 2
    have r3 := HT9.out.cell 3
    refine bodyPost_ret (v := .tuple #[.agg #[.int .i64 2, .string (toS (quotN ((strL s).drop (P + 1))).1), .int .i64 0, .int .i64 (P : Int)], .nilIface]) ?_ rfl ?_
    · rw [results_cell_tmp rfl]; go_simp <;> rfl
    · rw [htok]
      refine .inr ⟨rfl, rfl, ?_, ?_⟩
      · exact grown_above (grown_above ((grownBy_of_below HB5.out (some b)).trans HG6.out) HG7.out HG1.out) HG9.out HG1.out
      · rw [show P + ((quotN ((strL s).drop (P + 1))).2.1 + 1) = P + 1 + (quotN ((strL s).drop (P + 1))).2.1 by omega]
        exact Blk.grown (Blk.grown (HS6.out) HG7.out (fun e => hgb (Option.some.inj e).symm)) HG9.out (fun e => hgb (Option.some.inj e).symm)
  · -- a text that fails
    subst hk
    obtain ⟨hr2, hpl⟩ := quote_at hr
    rw [hr2] at hq htok
    clear hr hr2
    have HC := Lib.hid (quoted_any b s P w5 HM5.out HS5.out hpl hs)
    unfold QuTells at HC
    rw [hq] at HC
    have z0 := HT.out.cell 0
    have z1 := HT.out.cell 1
    have z2 := HT.out.cell 2
    have z3 := HT.out.cell 3
    simp only [List.getElem?_cons_zero, List.getElem?_cons_succ] at z0 z1 z2 z3
    go_wp2_with fail
    refine HC.out.mono ?_
    rintro e w6 (⟨h, _⟩ | ⟨_, v, rfl, hv, hg6⟩)
    case inl => cases h
    have HG6 := Lib.hid hg6
    have HT6 := Lib.hid (HT.out.grown hg6 (fun e => hgb (Option.some.inj e)))
    have HV := Lib.hid hv
    clear hg6 hv
    obtain ⟨z0, z1, z2, z3⟩ := tok_cells HT6.out
    go_wp2_with (first | (refine wpList_store_cell rfl none rfl _ (.tmp 33) (.tmp 31) rfl g 1 (.string ⟨#[]⟩) rfl rfl rfl _ _ HT6.out (by simp) sizeStr ?_; intro w7 hb7 hg7; have HT7 := Lib.hid (show Blk w7 g 59 [.int .i64 2, .string ⟨#[]⟩, .int .i64 0, .int .i64 (P : Int)] from hb7); have HG7 := Lib.hid hg7; obtain ⟨z0, z1, z2, z3⟩ := tok_cells HT7.out; clear hb7 hg7; try go_frame) | (refine wpList_store_blk rfl none rfl _ (.tmp 2) (.tmp 52) rfl g 0 [.int .i64 2, .string ⟨#[]⟩, .int .i64 0, .int .i64 (P : Int)] rfl rfl _ _ HT7.out (by simp) sizeTok (by intro v hv; simp at hv; rcases hv with rfl | rfl | rfl | rfl <;> rfl) ?_; intro w9 hb9 hg9; rw [splice_all _ _ rfl] at hb9; have HT9 := Lib.hid hb9; have HG9 := Lib.hid hg9; clear hb9 hg9; try go_frame))
    (try simp only [Exit.inBlock, Exit.then])
    have r0 := HT9.out.cell 0
    have r1 := HT9.out.cell 1
    have r2 := HT9.out.cell 2
    have r3 := HT9.out.cell 3
    refine bodyPost_ret (v := .tuple #[.agg #[.int .i64 2, .string ⟨#[]⟩, .int .i64 0, .int .i64 (P : Int)], v]) ?_ rfl ?_
    · rw [results_cell_tmp rfl]; go_simp <;> rfl
    · rw [htok]
      refine .inl ⟨(by intro h; cases h), _, _, _, _, _, rfl, ?_, ?_⟩
      · rw [show P + ((quotN ((strL s).drop (P + 1))).2.1 + 1) = P + 1 + (quotN ((strL s).drop (P + 1))).2.1 by omega]
        exact AtE.low (AtE.grownG (AtE.grownG (HV.out) HG7.out HT.out.lt) HG9.out HT.out.lt) HB5.out.size
      · exact grown_above (grown_above ((grownBy_of_below HB5.out (some b)).trans HG6.out) HG7.out HG1.out) HG9.out HG1.out
  · -- a number beyond
    subst hk
    have HC := Lib.hid (numberS_any b s P w5 HS5.out hp hs hl)
    unfold NumTellsS at HC
    rw [hq] at HC
    have z0 := HT.out.cell 0
    have z1 := HT.out.cell 1
    have z2 := HT.out.cell 2
    have z3 := HT.out.cell 3
    simp only [List.getElem?_cons_zero, List.getElem?_cons_succ] at z0 z1 z2 z3
    go_wp2_with fail
    refine HC.out.mono ?_
    rintro e w6 (⟨_, v, rfl, hv, hb6⟩ | ⟨h, _⟩)
    case inr => cases h
    have HG6 := Lib.hid (grownBy_of_below hb6 (some b))
    have HT6 := Lib.hid (HT.out.below hb6 HT.out.lt)
    have HV := Lib.hid hv
    clear hb6 hv
    obtain ⟨z0, z1, z2, z3⟩ := tok_cells HT6.out
    go_wp2_with (first | (refine wpList_store_cell rfl none rfl _ (.tmp 41) (.tmp 39) rfl g 2 (.int .i64 0) rfl rfl rfl _ _ HT6.out (by simp) sizeI64 ?_; intro w7 hb7 hg7; have HT7 := Lib.hid (show Blk w7 g 59 [.int .i64 3, .string ⟨#[]⟩, .int .i64 0, .int .i64 (P : Int)] from hb7); have HG7 := Lib.hid hg7; obtain ⟨z0, z1, z2, z3⟩ := tok_cells HT7.out; clear hb7 hg7; try go_frame) | (refine wpList_store_blk rfl none rfl _ (.tmp 2) (.tmp 52) rfl g 0 [.int .i64 3, .string ⟨#[]⟩, .int .i64 0, .int .i64 (P : Int)] rfl rfl _ _ HT7.out (by simp) sizeTok (by intro v hv; simp at hv; rcases hv with rfl | rfl | rfl | rfl <;> rfl) ?_; intro w9 hb9 hg9; rw [splice_all _ _ rfl] at hb9; have HT9 := Lib.hid hb9; have HG9 := Lib.hid hg9; clear hb9 hg9; try go_frame))
    (try simp only [Exit.inBlock, Exit.then])
    have r0 := HT9.out.cell 0
    have r1 := HT9.out.cell 1
    have r2 := HT9.out.cell 2
    have r3 := HT9.out.cell 3
    refine bodyPost_ret (v := .tuple #[.agg #[.int .i64 3, .string ⟨#[]⟩, .int .i64 0, .int .i64 (P : Int)], v]) ?_ rfl ?_
    · rw [results_cell_tmp rfl]; go_simp <;> rfl
    · rw [htok]
      refine .inl ⟨(by intro h; cases h), _, _, _, _, _, rfl, ?_, ?_⟩
      · exact AtE.low (AtE.grownG (AtE.grownG (HV.out) HG7.out HT.out.lt) HG9.out HT.out.lt) HB5.out.size
      · exact grown_above (grown_above ((grownBy_of_below HB5.out (some b)).trans HG6.out) HG7.out HG1.out) HG9.out HG1.out
  · -- a number
    subst hk
    have HC := Lib.hid (numberS_any b s P w5 HS5.out hp hs hl)
    unfold NumTellsS at HC
    rw [hq] at HC
    have z0 := HT.out.cell 0
    have z1 := HT.out.cell 1
    have z2 := HT.out.cell 2
    have z3 := HT.out.cell 3
    simp only [List.getElem?_cons_zero, List.getElem?_cons_succ] at z0 z1 z2 z3
    go_wp2_with fail
    refine HC.out.mono ?_
    rintro e w6 (⟨h, _⟩ | ⟨_, rfl, hg6, hs6⟩)
    case inl => cases h
    have HG6 := Lib.hid hg6
    have HT6 := Lib.hid (HT.out.grown hg6 (fun e => hgb (Option.some.inj e)))
    have HS6 := Lib.hid hs6
    clear hg6 hs6
    obtain ⟨z0, z1, z2, z3⟩ := tok_cells HT6.out
    go_wp2_with (first | (refine wpList_store_cell rfl none rfl _ (.tmp 41) (.tmp 39) rfl g 2 (.int .i64 (numL (((strL s).drop P).take (leadL ((strL s).drop P))))) rfl rfl rfl _ _ HT6.out (by simp) sizeI64 ?_; intro w7 hb7 hg7; have HT7 := Lib.hid (show Blk w7 g 59 [.int .i64 3, .string ⟨#[]⟩, .int .i64 (numL (((strL s).drop P).take (leadL ((strL s).drop P)))), .int .i64 (P : Int)] from hb7); have HG7 := Lib.hid hg7; obtain ⟨z0, z1, z2, z3⟩ := tok_cells HT7.out; clear hb7 hg7; try go_frame) | (refine wpList_store_blk rfl none rfl _ (.tmp 2) (.tmp 52) rfl g 0 [.int .i64 3, .string ⟨#[]⟩, .int .i64 (numL (((strL s).drop P).take (leadL ((strL s).drop P)))), .int .i64 (P : Int)] rfl rfl _ _ HT7.out (by simp) sizeTok (by intro v hv; simp at hv; rcases hv with rfl | rfl | rfl | rfl <;> rfl) ?_; intro w9 hb9 hg9; rw [splice_all _ _ rfl] at hb9; have HT9 := Lib.hid hb9; have HG9 := Lib.hid hg9; clear hb9 hg9; try go_frame))
    (try simp only [Exit.inBlock, Exit.then])
    have r0 := HT9.out.cell 0
    have r1 := HT9.out.cell 1
    have r2 := HT9.out.cell 2
    have r3 := HT9.out.cell 3
    refine bodyPost_ret (v := .tuple #[.agg #[.int .i64 3, .string ⟨#[]⟩, .int .i64 (numL (((strL s).drop P).take (leadL ((strL s).drop P)))), .int .i64 (P : Int)], .nilIface]) ?_ rfl ?_
    · rw [results_cell_tmp rfl]; go_simp <;> rfl
    · rw [htok]
      refine .inr ⟨rfl, rfl, ?_, ?_⟩
      · exact grown_above (grown_above ((grownBy_of_below HB5.out (some b)).trans HG6.out) HG7.out HG1.out) HG9.out HG1.out
      · exact Blk.grown (Blk.grown (HS6.out) HG7.out (fun e => hgb (Option.some.inj e).symm)) HG9.out (fun e => hgb (Option.some.inj e).symm)
  · -- a sign
    subst hk
    have HR := Lib.hid (rest_any b s P w5 HS5.out hp (by omega))
    have HL := Lib.hid (fun W : World => leadSign_any (aheadS s P) W)
    rw [aheadS_L] at HL
    have hsl := (signN_le ((strL s).drop P)).1
    rw [List.length_drop, length_strL] at hsl
    have HC := Lib.hid (fun (q : Nat) => take_any b s P (signN ((strL s).drop P)) (w5.drewN q) (Blk.drewN HS5.out q) (by omega) (by omega))
    have z0 := HT.out.cell 0
    have z1 := HT.out.cell 1
    have z2 := HT.out.cell 2
    have z3 := HT.out.cell 3
    simp only [List.getElem?_cons_zero, List.getElem?_cons_succ] at z0 z1 z2 z3
    go_wp2_with fail
    refine HR.out.mono ?_
    rintro e w6 ⟨rfl, q6, rfl⟩
    go_wp2_with fail
    refine (HL.out _).mono ?_
    rintro e w6 ⟨rfl, rfl⟩
    go_wp2_with fail
    refine (HC.out q6).mono ?_
    rintro e w6 ⟨rfl, hg6, hs6⟩
    have hg6 := (grown_drewS (w := w5) q6 (some b)).trans hg6
    have HG6 := Lib.hid hg6
    have HT6 := Lib.hid (HT.out.grown hg6 (fun e => hgb (Option.some.inj e)))
    have HS6 := Lib.hid hs6
    clear hg6 hs6
    obtain ⟨z0, z1, z2, z3⟩ := tok_cells HT6.out
    go_wp2_with (first | (refine wpList_store_cell rfl none rfl _ (.tmp 49) (.tmp 48) rfl g 1 (.string (toS (((strL s).drop P).take (signN ((strL s).drop P))))) rfl rfl rfl _ _ HT6.out (by simp) sizeStr ?_; intro w7 hb7 hg7; have HT7 := Lib.hid (show Blk w7 g 59 [.int .i64 4, .string (toS (((strL s).drop P).take (signN ((strL s).drop P)))), .int .i64 0, .int .i64 (P : Int)] from hb7); have HG7 := Lib.hid hg7; obtain ⟨z0, z1, z2, z3⟩ := tok_cells HT7.out; clear hb7 hg7; try go_frame) | (refine wpList_store_blk rfl none rfl _ (.tmp 2) (.tmp 52) rfl g 0 [.int .i64 4, .string (toS (((strL s).drop P).take (signN ((strL s).drop P)))), .int .i64 0, .int .i64 (P : Int)] rfl rfl _ _ HT7.out (by simp) sizeTok (by intro v hv; simp at hv; rcases hv with rfl | rfl | rfl | rfl <;> rfl) ?_; intro w9 hb9 hg9; rw [splice_all _ _ rfl] at hb9; have HT9 := Lib.hid hb9; have HG9 := Lib.hid hg9; clear hb9 hg9; try go_frame))
    (try simp only [Exit.inBlock, Exit.then])
    have r0 := HT9.out.cell 0
    have r1 := HT9.out.cell 1
    have r2 := HT9.out.cell 2
    have r3 := HT9.out.cell 3
    refine bodyPost_ret (v := .tuple #[.agg #[.int .i64 4, .string (toS (((strL s).drop P).take (signN ((strL s).drop P)))), .int .i64 0, .int .i64 (P : Int)], .nilIface]) ?_ rfl ?_
    · rw [results_cell_tmp rfl]; go_simp <;> rfl
    · rw [htok]
      refine .inr ⟨rfl, rfl, ?_, ?_⟩
      · exact grown_above (grown_above ((grownBy_of_below HB5.out (some b)).trans HG6.out) HG7.out HG1.out) HG9.out HG1.out
      · exact Blk.grown (Blk.grown (HS6.out) HG7.out (fun e => hgb (Option.some.inj e).symm)) HG9.out (fun e => hgb (Option.some.inj e).symm)
  · -- none
    subst hk
    have HC := Lib.hid (fault_any b s P 110 w5 HS5.out)
    have z0 := HT.out.cell 0
    have z1 := HT.out.cell 1
    have z2 := HT.out.cell 2
    have z3 := HT.out.cell 3
    simp only [List.getElem?_cons_zero, List.getElem?_cons_succ] at z0 z1 z2 z3
    go_wp2_with fail
    refine HC.out.mono ?_
    rintro e w6 ⟨⟨v, rfl, hv⟩, hb6⟩
    have HG6 := Lib.hid (grownBy_of_below hb6 (some b))
    have HT6 := Lib.hid (HT.out.below hb6 HT.out.lt)
    have HV := Lib.hid hv
    clear hb6 hv
    obtain ⟨z0, z1, z2, z3⟩ := tok_cells HT6.out
    go_wp2_with (first | (refine wpList_store_blk rfl none rfl _ (.tmp 2) (.tmp 52) rfl g 0 [.int .i64 0, .string ⟨#[]⟩, .int .i64 0, .int .i64 (P : Int)] rfl rfl _ _ HT6.out (by simp) sizeTok (by intro v hv; simp at hv; rcases hv with rfl | rfl | rfl | rfl <;> rfl) ?_; intro w9 hb9 hg9; rw [splice_all _ _ rfl] at hb9; have HT9 := Lib.hid hb9; have HG9 := Lib.hid hg9; clear hb9 hg9; try go_frame))
    (try simp only [Exit.inBlock, Exit.then])
    have r0 := HT9.out.cell 0
    have r1 := HT9.out.cell 1
    have r2 := HT9.out.cell 2
    have r3 := HT9.out.cell 3
    refine bodyPost_ret (v := .tuple #[.agg #[.int .i64 0, .string ⟨#[]⟩, .int .i64 0, .int .i64 (P : Int)], v]) ?_ rfl ?_
    · rw [results_cell_tmp rfl]; go_simp <;> rfl
    · rw [htok]
      refine .inl ⟨(by intro h; cases h), _, _, _, _, _, rfl, ?_, ?_⟩
      · exact AtE.low (AtE.grownG (HV.out) HG9.out HT.out.lt) HB5.out.size
      · exact grown_above ((grownBy_of_below HB5.out (some b)).trans HG6.out) HG9.out HG1.out
end Go.Proofs.YtcjfealalokjaaaGreatDoor
namespace Go.Proofs.YtcjfealalokjaaaGreatDoor
open Go Go.RowKit
theorem infoTok : (Tryz.prog.info? 59).map (fun i => (i.zero, i.size, i.bytes)) = some (some (.agg #[.int .i64 0, .string ByteArray.empty, .int .i64 0, .int .i64 0]), 4, 40) := by kernel_rfl
def flatT (ts : List TokM) : List Value := ts.flatMap cellsT
theorem flatT_snoc (ts : List TokM) (t : TokM) : flatT (ts ++ [t]) = flatT ts ++ cellsT t := by simp [flatT]
theorem flatT_at : ∀ (ts : List TokM) (i : Nat) (t : TokM), ts[i]? = some t → (flatT ts)[i * 4]? = some (.int .i64 t.kind) ∧ (flatT ts)[i * 4 + 1]? = some (.string t.text) ∧ (flatT ts)[i * 4 + 2]? = some (.int .i64 t.num) ∧ (flatT ts)[i * 4 + 3]? = some (.int .i64 t.pos)
  | [], i, t, h => by simp at h
  | t0 :: r, 0, t, h => by
    have h : t0 = t := by simpa using h
    subst h
    exact ⟨rfl, rfl, rfl, rfl⟩
  | t0 :: r, i + 1, t, h => by
    have h : r[i]? = some t := by simpa using h
    obtain ⟨h1, h2, h3, h4⟩ := flatT_at r i t h
    have e : ∀ k, (flatT (t0 :: r))[k + 4]? = (flatT r)[k]? := fun k => rfl
    rw [show (i + 1) * 4 = i * 4 + 4 by omega, show i * 4 + 4 + 1 = i * 4 + 1 + 4 by omega, show i * 4 + 4 + 2 = i * 4 + 2 + 4 by omega, show i * 4 + 4 + 3 = i * 4 + 3 + 4 by omega, e, e, e, e]
    exact ⟨h1, h2, h3, h4⟩
/-- Tokens one behind the other. -/
def ToksAt (w : World) (A : Option Addr) (ts : List TokM) : Prop := ts ≠ [] → ∃ b o, A = some ⟨b, o, none⟩ ∧ b < w.heap.size ∧ ∀ i t, ts[i]? = some t →
  w.cell? ⟨b, o + i * 4, none⟩ = some (.int .i64 t.kind) ∧ w.cell? ⟨b, o + i * 4 + 1, none⟩ = some (.string t.text) ∧ w.cell? ⟨b, o + i * 4 + 2, none⟩ = some (.int .i64 t.num) ∧ w.cell? ⟨b, o + i * 4 + 3, none⟩ = some (.int .i64 t.pos)
theorem ToksAt.nil (w : World) (A : Option Addr) : ToksAt w A [] := fun h => absurd rfl h
theorem own_toks {w : World} {base : Nat} {v : Value} {ts : List TokM} {n : Nat} (h : w.ownsRow base 59 4 v n (flatT ts)) (hn : ts.length = n) : ∃ A c, v = .slice A n c ∧ n ≤ c ∧ ToksAt w A ts := by
  rcases h.2 with ⟨rfl, h0⟩ | ⟨g, cap, cur, rfl, hg, hcell, hle, hm, _⟩
  · subst h0
    exact ⟨none, 0, rfl, Nat.le_refl _, fun hp => absurd (List.eq_nil_of_length_eq_zero hn) hp⟩
  · refine ⟨some ⟨g, 0, none⟩, cap, rfl, hle, fun _ => ⟨g, 0, rfl, (h.lt g rfl).2, fun i t hi => ?_⟩⟩
    obtain ⟨h1, h2, h3, h4⟩ := flatT_at ts i t hi
    have k1 := h.cells (g := g) rfl _ _ h1
    have k2 := h.cells (g := g) rfl _ _ h2
    have k3 := h.cells (g := g) rfl _ _ h3
    have k4 := h.cells (g := g) rfl _ _ h4
    rw [Addr.add_mid] at k1 k2 k3 k4
    exact ⟨by simpa using k1, by simpa [Nat.add_assoc] using k2, by simpa [Nat.add_assoc] using k3, by simpa [Nat.add_assoc] using k4⟩
/-- What an error tells: none; a number alone; a number and a place. -/
def ErrTells (n pos : Int) (w : World) (v : Value) (w' : World) : Prop :=
  (n = 0 ∧ pos = -1 ∧ v = .nilIface) ∨ (n ≠ 0 ∧ pos = -1 ∧ v = .iface 63 (.int .i64 n)) ∨ (n ≠ 0 ∧ 0 ≤ pos ∧ AtE pos n w v w')
/-- What Scan hands back. -/
def ScanTells (r : List TokM × Int × Int) (w : World) (e : Ending) (w' : World) : Prop :=
  ∃ A c v, e = .returned (.tuple #[.slice A r.1.length c, v]) ∧ r.1.length ≤ c ∧ ToksAt w' A r.1 ∧ ErrTells r.2.1 r.2.2 w v w' ∧ Below w.heap.size w w'
/-! ### Rounds -/
theorem gap_end {l : List Int} : l.drop (gapM false l) = [] ↔ l.length ≤ gapM false l := List.drop_eq_nil_iff
theorem tok_kind {l : List Int} (h : (tokL l).err = 0) : (tokL l).kind = 5 ↔ l = [] := by
  rcases kind_cases l with ⟨e, _, ht⟩ | ⟨hw, _, ht⟩ | ⟨hw, hk, ht⟩ | ⟨r, e, _, _, ht⟩ | ⟨r, e, _, _, ht⟩ | ⟨hl, hk, _, ht⟩ | ⟨hl, hk, _, ht⟩ | ⟨hl, hk, ht⟩ | ⟨hk, ht⟩
  · rw [ht]; exact ⟨fun _ => e, fun _ => rfl⟩
  · rw [ht] at h; cases h
  · rw [ht]; exact ⟨(fun h => by cases h), fun e => by rw [e] at hk; cases hk⟩
  · rw [ht]; exact ⟨(fun h => by cases h), fun e' => by rw [e'] at e; cases e⟩
  · rw [ht] at h; cases h
  · rw [ht] at h; cases h
  · rw [ht]; exact ⟨(fun h => by cases h), fun e => by rw [e] at hl; exact absurd rfl hl⟩
  · rw [ht]; exact ⟨(fun h => by cases h), fun e => by rw [e] at hl; exact absurd hl (by decide)⟩
  · rw [ht] at h; cases h
theorem scanF_err {f : Nat} {l : List Int} {p : Nat} {acc : List TokM} (h : (tokL (l.drop (gapM false l))).err ≠ 0) : scanF (f + 1) l p acc = ([], (tokL (l.drop (gapM false l))).err, ((p + gapM false l + (tokL (l.drop (gapM false l))).off : Nat) : Int)) := by
  rw [scanF, if_pos h]
theorem scanF_end {f : Nat} {l : List Int} {p : Nat} {acc : List TokM} (h : l.drop (gapM false l) = []) : scanF (f + 1) l p acc = (acc ++ [endT (p + gapM false l)], 0, -1) := by
  rw [scanF, h, if_neg (by simp [tokL]), if_pos (gap_end.1 h)]
theorem scanF_many {f : Nat} {l : List Int} {p : Nat} {acc : List TokM} (h : (tokL (l.drop (gapM false l))).err = 0) (h2 : l.drop (gapM false l) ≠ []) (h3 : acc.length = 512) : scanF (f + 1) l p acc = ([], 53, ((p + gapM false l : Nat) : Int)) := by
  rw [scanF, if_neg (by rw [h]; simp), if_neg (fun hq => h2 (gap_end.2 hq)), if_pos h3]
theorem scanF_go {f : Nat} {l : List Int} {p : Nat} {acc : List TokM} (h : (tokL (l.drop (gapM false l))).err = 0) (h2 : l.drop (gapM false l) ≠ []) (h3 : acc.length ≠ 512) :
    scanF (f + 1) l p acc = scanF f (l.drop (gapM false l + (tokL (l.drop (gapM false l))).size)) (p + (gapM false l + (tokL (l.drop (gapM false l))).size)) (acc ++ [madeT (tokL (l.drop (gapM false l))) (p + gapM false l)]) := by
  rw [scanF, if_neg (by rw [h]; simp), if_neg (fun hq => h2 (gap_end.2 hq)), if_neg h3]
theorem tok_size {l : List Int} (h : (tokL l).err = 0) (h2 : l ≠ []) : 1 ≤ (tokL l).size ∧ (tokL l).size ≤ l.length := by
  cases l with
  | nil => exact absurd rfl h2
  | cons c r => exact tokL_size h
end Go.Proofs.YtcjfealalokjaaaGreatDoor
namespace Go.Proofs.YtcjfealalokjaaaGreatDoor
open Go Go.RowKit
/-! ### Texts within quotes -/
theorem putL_high {N : Int} (h : 128 ≤ N) : ∀ x ∈ putL N, 128 ≤ x := fun x hx => by
  rcases putL_cases N with ⟨h', _⟩ | ⟨_, _, h'⟩ | ⟨_, _, h'⟩ | ⟨_, _, _, h'⟩ | ⟨_, _, h'⟩ <;> rw [h'] at hx <;> simp at hx <;> omega
theorem highL_cons {c : Int} {r : List Int} : highL (c :: r) = true ↔ 32 ≤ c ∧ highL r = true := by
  unfold highL
  rw [List.all_cons, Bool.and_eq_true, decide_eq_true_eq]
theorem highL_app {a b : List Int} : highL (a ++ b) = true ↔ highL a = true ∧ highL b = true := by
  unfold highL
  rw [List.all_append, Bool.and_eq_true]
/-- What stands within quotes can stand there. -/
theorem quotF_valid : ∀ (f : Nat) (l : List Int), (quotF f l).2.2 = true → badU (quotF f l).1 = (quotF f l).1.length ∧ highL (quotF f l).1 = true
  | 0, _, h => by cases h
  | _ + 1, [], h => by cases h
  | f + 1, c :: r, h => by
    have hne : badU ([] : List Int) = ([] : List Int).length ∧ highL [] = true := ⟨rfl, rfl⟩
    by_cases h0 : c < 32
    · rw [quotF_low h0] at h; cases h
    · by_cases h1 : c = 34
      · subst h1; rw [quotF_end]; exact hne
      · by_cases h2 : c = 92
        · subst h2
          cases r with
          | nil => rw [quotF_esc_no (by simp)] at h; cases h
          | cons d q =>
            by_cases hd : d = 34 ∨ d = 92
            · rw [quotF_esc hd] at h ⊢
              obtain ⟨i1, i2⟩ := quotF_valid f q h
              obtain ⟨Z, hZ⟩ : ∃ Z, Z = quotF f q := ⟨_, rfl⟩
              rw [← hZ] at i1 i2 ⊢
              show badU (d :: Z.1) = (d :: Z.1).length ∧ highL (d :: Z.1) = true
              have hp : putL d = [d] := putL_one (by omega) (by omega)
              have hn : nxL (d :: Z.1) = (d, 1) := by
                have := nx_put (n := d) (by rw [hp]; simp) Z.1
                rw [hp] at this; exact this
              refine ⟨?_, highL_cons.2 ⟨by omega, i2⟩⟩
              rw [badU_go (by rw [hn]; show d ≠ -1; omega), hn]
              show 1 + badU Z.1 = _
              rw [i1, List.length_cons]; omega
            · rw [quotF_esc_no (by simpa using hd)] at h; cases h
        · by_cases hx : (nxL (c :: r)).1 = -1
          · rw [quotF_bad h0 h1 h2 hx] at h; cases h
          · rw [quotF_go h0 h1 h2 hx] at h ⊢
            obtain ⟨i1, i2⟩ := quotF_valid f _ h
            obtain ⟨p1, p2, p3, p4, _, p6, p7⟩ := nx_found hx
            have hhd := nx_head hx
            obtain ⟨Z, hZ⟩ : ∃ Z, Z = quotF f ((c :: r).drop (nxL (c :: r)).2) := ⟨_, rfl⟩
            rw [← hZ] at i1 i2 ⊢
            obtain ⟨N, hN⟩ : ∃ N, N = (nxL (c :: r)).1 := ⟨_, rfl⟩
            rw [← hN] at p1 p2 p6 p7 hhd
            show badU ((c :: r).take (nxL (c :: r)).2 ++ Z.1) = ((c :: r).take (nxL (c :: r)).2 ++ Z.1).length ∧ highL ((c :: r).take (nxL (c :: r)).2 ++ Z.1) = true
            rw [← p1]
            have hn := nx_put p7 Z.1
            refine ⟨?_, highL_app.2 ⟨?_, i2⟩⟩
            · rw [badU_go (by rw [hn]; show N ≠ -1; omega), hn]
              show (putL N).length + badU ((putL N ++ Z.1).drop (putL N).length) = _
              rw [List.drop_left, i1, List.length_append]
            · unfold highL
              rw [List.all_eq_true]
              intro x hx'
              rw [decide_eq_true_eq]
              rcases hhd with ⟨k1, k2⟩ | ⟨k1, _⟩
              · rw [putL_one p6 k1, List.mem_singleton] at hx'
                omega
              · have := putL_high k1 x hx'; omega
/-! ### A token from its text -/
/-- What a token that has a text is scanned as. -/
def normK (t : TokM) : Int × List Int × Int := (t.kind, if t.kind = 3 then [] else strL t.text, if t.kind = 3 then t.num else 0)
/-! ### Tokens one behind the other -/
/-- A token but for its place. -/
def er (t : TokM) : Int × ByteArray × Int := (t.kind, t.text, t.num)
/-! ### What a scan tells -/
/-- A token that has a text, and is scanned of it as itself. -/
def Own (t : TokM) : Prop := spellN t ≠ [] ∧ er t = ((normK t).1, toS (normK t).2.1, (normK t).2.2)
theorem wordN_take : ∀ l : List Int, wordN (l.take (wordN l)) = wordN l
  | [] => rfl
  | c :: r => by
    cases hs : smallC c with
    | true => rw [wordN_go hs, List.take_succ_cons, wordN_go hs, wordN_take r]
    | false => rw [wordN_stop hs]; rfl
theorem signN_take (l : List Int) : signN (l.take (signN l)) = signN l := by
  match l with
  | [] => rfl
  | [c] =>
    cases ho : oneC c with
    | true => have e : signN [c] = 1 := by rw [signN, if_pos ho]
              rw [e]; exact e
    | false => have e : signN [c] = 0 := by rw [signN, if_neg (by rw [ho]; decide)]
               rw [e]; rfl
  | c :: d :: r =>
    by_cases h : d = 61 ∧ (c = 33 ∨ c = 60 ∨ c = 62)
    · have e : signN (c :: d :: r) = 2 := by rw [signN, if_pos h]
      rw [e]
      show signN [c, d] = 2
      rw [signN, if_pos h]
    · cases ho : oneC c with
      | true =>
        have e : signN (c :: d :: r) = 1 := by rw [signN, if_neg h, if_pos ho]
        rw [e]
        show signN [c] = 1
        rw [signN, if_pos ho]
      | false =>
        have e : signN (c :: d :: r) = 0 := by rw [signN, if_neg h, if_neg (by rw [ho]; decide)]
        rw [e]; rfl
theorem quotF_bytes : ∀ (f : Nat) (l : List Int), Bytes l → Bytes (quotF f l).1
  | 0, _, _ => .of_mem fun x hx => by cases hx
  | f + 1, [], _ => .of_mem fun x hx => by cases hx
  | f + 1, c :: r, h => by
    have hn : Bytes [] := .of_mem fun x hx => by cases hx
    rw [quotF]
    split
    · exact hn
    · split
      · exact hn
      · split
        · split
          · rename_i hr
            have hr2 : Bytes (r.drop 1) := Bytes.drop (.of_mem fun x hx => h.mem (List.mem_cons_of_mem _ hx)) 1
            exact .of_mem fun x hx => by
              rcases List.mem_cons.1 hx with rfl | hx
              · rcases hr.2 with h' | h' <;> omega
              · exact (quotF_bytes f _ hr2).mem hx
          · exact hn
        · split
          · exact hn
          · exact (h.take _).append (quotF_bytes f _ (h.drop _))
theorem tok_own {l : List Int} (hb : Bytes l) (h : (tokL l).err = 0) (h2 : l ≠ []) (p : Nat) : Own (madeT (tokL l) p) := by
  have hsz := tok_size h h2
  rcases kind_cases l with ⟨e, _, ht⟩ | ⟨hw, _, ht⟩ | ⟨hw, hk, ht⟩ | ⟨r, e, _, hq, ht⟩ | ⟨r, e, _, _, ht⟩ | ⟨hl, hk, _, ht⟩ | ⟨hl, hk, hf, ht⟩ | ⟨hl, hk, ht⟩ | ⟨hk, ht⟩
  · exact absurd e h2
  · rw [ht] at h; cases h
  · rw [ht] at hsz ⊢
    have hs : strL (toS (l.take (wordN l))) = l.take (wordN l) := strL_toS (hb.take _)
    have hln : (l.take (wordN l)).length = wordN l := by rw [List.length_take]; have := hsz.2; simp only at this; omega
    have hsp : spellN (madeT ⟨0, 0, 1, l.take (wordN l), 0, wordN l⟩ p) = l.take (wordN l) := by
      show (if wordN (strL (toS (l.take (wordN l)))) = (toS (l.take (wordN l))).size ∧ (toS (l.take (wordN l))).size ≤ 32 then strL (toS (l.take (wordN l))) else []) = _
      rw [hs, size_toS, hln, wordN_take, if_pos ⟨rfl, by omega⟩]
    refine ⟨by rw [hsp]; intro e; rw [e] at hln; have := hsz.1; simp at hln; simp only at this; omega, ?_⟩
    show ((1 : Int), toS (l.take (wordN l)), (0 : Int)) = (1, toS (strL (toS (l.take (wordN l)))), 0)
    rw [hs]
  · rw [ht] at hsz ⊢
    have hr : Bytes r := by rw [e] at hb; exact .of_mem fun x hx => hb.mem (List.mem_cons_of_mem _ hx)
    obtain ⟨v1, v2⟩ := quotF_valid _ r hq
    have hs : strL (toS (quotN r).1) = (quotN r).1 := strL_toS (quotF_bytes _ r hr)
    have hsp : spellN (madeT ⟨0, 0, 2, (quotN r).1, 0, (quotN r).2.1 + 1⟩ p) = 34 :: (escN (quotN r).1 ++ [34]) := by
      show (quoteN (strL (toS (quotN r).1))).1 = _
      rw [hs]
      unfold quoteN
      rw [if_pos ⟨v1, v2⟩]
    refine ⟨by rw [hsp]; simp, ?_⟩
    show ((2 : Int), toS (quotN r).1, (0 : Int)) = (2, toS (strL (toS (quotN r).1)), 0)
    rw [hs]
  · rw [ht] at h; cases h
  · rw [ht] at h; cases h
  · rw [ht]
    have hn : -9007199254740991 ≤ numL (l.take (leadL l)) ∧ numL (l.take (leadL l)) ≤ 9007199254740991 := by
      have := of_decide_eq_true hf
      exact ⟨this.2.2.1, this.2.2.2⟩
    refine ⟨?_, rfl⟩
    show (if -9007199254740991 ≤ numL (l.take (leadL l)) ∧ numL (l.take (leadL l)) ≤ 9007199254740991 then prL (numL (l.take (leadL l))) else []) ≠ []
    rw [if_pos hn]
    intro e
    have := form_prL (numL (l.take (leadL l)))
    rw [e] at this; cases this
  · rw [ht] at hsz ⊢
    have hs : strL (toS (l.take (signN l))) = l.take (signN l) := strL_toS (hb.take _)
    have hln : (l.take (signN l)).length = signN l := by rw [List.length_take]; have := hsz.2; simp only at this; omega
    have hsp : spellN (madeT ⟨0, 0, 4, l.take (signN l), 0, signN l⟩ p) = l.take (signN l) := by
      show (if signN (strL (toS (l.take (signN l)))) = (toS (l.take (signN l))).size then strL (toS (l.take (signN l))) else []) = _
      rw [hs, size_toS, hln, signN_take, if_pos rfl]
    refine ⟨by rw [hsp]; intro e; rw [e] at hln; simp at hln; omega, ?_⟩
    show ((4 : Int), toS (l.take (signN l)), (0 : Int)) = (4, toS (strL (toS (l.take (signN l)))), 0)
    rw [hs]
  · rw [ht] at h; cases h
/-- Places rise. -/
def Rising (ts : List TokM) : Prop := ts.Pairwise fun a b => a.pos ≤ b.pos
theorem scanF_own : ∀ (f : Nat) (l : List Int) (p : Nat) (acc : List TokM), Bytes l → l.length < f → (∀ t ∈ acc, Own t ∧ t.pos ≤ (p : Int)) → Rising acc → acc.length ≤ 512 → (scanF f l p acc).2.1 = 0 →
    ∃ body q, (scanF f l p acc).1 = body ++ [endT q] ∧ (∀ t ∈ body, Own t) ∧ body.length ≤ 512 ∧ Rising (body ++ [endT q])
  | 0, l, p, acc, _, hf, _, _, _, _ => absurd hf (Nat.not_lt_zero _)
  | f + 1, l, p, acc, hb, hf, ho, hr, hn, h => by
    have hg := gapM_le false l
    by_cases he : (tokL (l.drop (gapM false l))).err = 0
    · by_cases hnil : l.drop (gapM false l) = []
      · rw [scanF_end hnil]
        refine ⟨acc, p + gapM false l, rfl, fun t ht => (ho t ht).1, hn, ?_⟩
        refine List.pairwise_append.2 ⟨hr, List.pairwise_singleton _ _, fun a ha b hb' => ?_⟩
        rw [List.mem_singleton.1 hb']
        have := (ho a ha).2
        show a.pos ≤ ((p + gapM false l : Nat) : Int)
        omega
      · by_cases h5 : acc.length = 512
        · rw [scanF_many he hnil h5] at h; cases h
        · rw [scanF_go he hnil h5] at h ⊢
          have hs := tok_size he hnil
          rw [List.length_drop] at hs
          refine scanF_own f _ _ _ (hb.drop _) (by rw [List.length_drop]; omega) (fun t ht => ?_) ?_ (by simp; omega) h
          · rcases List.mem_append.1 ht with ht | ht
            · have := (ho t ht).2
              exact ⟨(ho t ht).1, by omega⟩
            · rw [List.mem_singleton.1 ht]
              refine ⟨tok_own (hb.drop _) he hnil _, ?_⟩
              show ((p + gapM false l : Nat) : Int) ≤ _
              omega
          · refine List.pairwise_append.2 ⟨hr, List.pairwise_singleton _ _, fun a ha b hb' => ?_⟩
            rw [List.mem_singleton.1 hb']
            have := (ho a ha).2
            show a.pos ≤ ((p + gapM false l : Nat) : Int)
            omega
    · rw [scanF_err he] at h
      exact absurd h he
/-! ### Sizes; errors -/
theorem quotF_tl : ∀ (f : Nat) (l : List Int), (quotF f l).1.length ≤ (quotF f l).2.1
  | 0, _ => Nat.le_refl _
  | f + 1, [] => Nat.le_refl _
  | f + 1, c :: r => by
    rw [quotF]
    split
    · exact Nat.le_refl _
    · split
      · exact Nat.zero_le _
      · split
        · split
          · have := quotF_tl f (r.drop 1)
            simp only [List.length_cons]; omega
          · exact Nat.zero_le _
        · split
          · exact Nat.le_refl _
          · have := quotF_tl f ((c :: r).drop (nxL (c :: r)).2)
            simp only [List.length_append, List.length_take]; omega
theorem tok_small {l : List Int} (h : (tokL l).err = 0) : (tokL l).text.length ≤ l.length ∧ -9007199254740991 ≤ (tokL l).num ∧ (tokL l).num ≤ 9007199254740991 := by
  rcases kind_cases l with ⟨e, _, ht⟩ | ⟨hw, _, ht⟩ | ⟨hw, hk, ht⟩ | ⟨r, e, _, hq, ht⟩ | ⟨r, e, _, _, ht⟩ | ⟨hl, hk, _, ht⟩ | ⟨hl, hk, hf, ht⟩ | ⟨hl, hk, ht⟩ | ⟨hk, ht⟩
  · rw [ht]; exact ⟨Nat.zero_le _, by decide, by decide⟩
  · rw [ht] at h; cases h
  · rw [ht]; exact ⟨by show (l.take _).length ≤ _; rw [List.length_take]; exact Nat.min_le_right _ _, by show _ ≤ (0 : Int); decide, by show (0 : Int) ≤ _; decide⟩
  · rw [ht]
    have h1 := quotF_tl (r.length + 1) r
    have h2 := quotF_le (r.length + 1) r
    exact ⟨by show (quotN r).1.length ≤ _; rw [e, List.length_cons]; unfold quotN; omega, by show _ ≤ (0 : Int); decide, by show (0 : Int) ≤ _; decide⟩
  · rw [ht] at h; cases h
  · rw [ht] at h; cases h
  · rw [ht]
    have := of_decide_eq_true hf
    exact ⟨Nat.zero_le _, this.2.2.1, this.2.2.2⟩
  · rw [ht]; exact ⟨by show (l.take _).length ≤ _; rw [List.length_take]; exact Nat.min_le_right _ _, by show _ ≤ (0 : Int); decide, by show (0 : Int) ≤ _; decide⟩
  · rw [ht] at h; cases h
/-- A token that is small. -/
def Small1 (t : TokM) : Prop := t.text.size ≤ 1000000 ∧ -9223372036854775808 ≤ t.num ∧ t.num ≤ 9223372036854775807
theorem scanF_small : ∀ (f : Nat) (l : List Int) (p : Nat) (acc : List TokM), l.length ≤ 2048 → (∀ t ∈ acc, Small1 t) → ∀ t ∈ (scanF f l p acc).1, Small1 t
  | 0, l, p, acc, _, _, t, ht => by cases ht
  | f + 1, l, p, acc, hl, ha, t, ht => by
    have hend : Small1 (endT (p + gapM false l)) := ⟨Nat.zero_le _, by show _ ≤ (0 : Int); decide, by show (0 : Int) ≤ _; decide⟩
    by_cases he : (tokL (l.drop (gapM false l))).err = 0
    · by_cases hnil : l.drop (gapM false l) = []
      · rw [scanF_end hnil] at ht
        rcases List.mem_append.1 ht with ht | ht
        · exact ha t ht
        · rw [List.mem_singleton.1 ht]; exact hend
      · by_cases h5 : acc.length = 512
        · rw [scanF_many he hnil h5] at ht; cases ht
        · rw [scanF_go he hnil h5] at ht
          refine scanF_small f _ _ _ (by rw [List.length_drop]; omega) (fun u hu => ?_) t ht
          rcases List.mem_append.1 hu with hu | hu
          · exact ha u hu
          · rw [List.mem_singleton.1 hu]
            obtain ⟨s1, s2, s3⟩ := tok_small he
            rw [List.length_drop] at s1
            refine ⟨?_, ?_, ?_⟩
            · show (toS (tokL (l.drop (gapM false l))).text).size ≤ _
              rw [size_toS]; omega
            · show _ ≤ (tokL (l.drop (gapM false l))).num; omega
            · show (tokL (l.drop (gapM false l))).num ≤ _; omega
    · rw [scanF_err he] at ht; cases ht
theorem scanL_small (l : List Int) : ∀ t ∈ (scanL l).1, Small1 t := fun t ht => by
  unfold scanL at ht
  split at ht
  · cases ht
  · exact scanF_small _ _ _ _ (by omega) (fun u hu => by cases hu) t ht
end Go.Proofs.YtcjfealalokjaaaGreatDoor
namespace Go.Proofs.YtcjfealalokjaaaGreatDoor
open Go Go.RowKit
/-- An expression: op, text, number, parts, place. -/
inductive Ex where
  | mk (op : Int) (s : ByteArray) (n : Int) (l : List Ex) (pos : Int)
abbrev E0 : ByteArray := ⟨#[]⟩
def ex0 : Ex := .mk 0 E0 0 [] 0
/-- An expression (a wrong one's value doesn't matter), what is left, the error. -/
abbrev ResE := Ex × List TokM × Int
def hdT (r : List TokM) : TokM := r.headD (endT 0)
def isT (r : List TokM) (k : Int) (s : ByteArray) : Bool := decide ((hdT r).kind = k ∧ (hdT r).text = s)
abbrev kOpen : ByteArray := ⟨#[40]⟩
abbrev kShut : ByteArray := ⟨#[41]⟩
abbrev kLeft : ByteArray := ⟨#[91]⟩
abbrev kRight : ByteArray := ⟨#[93]⟩
abbrev kComma : ByteArray := ⟨#[44]⟩
abbrev kSemi : ByteArray := ⟨#[59]⟩
abbrev kEq : ByteArray := ⟨#[61]⟩
abbrev kNe : ByteArray := ⟨#[33, 61]⟩
abbrev kLt : ByteArray := ⟨#[60]⟩
abbrev kLe : ByteArray := ⟨#[60, 61]⟩
abbrev kGt : ByteArray := ⟨#[62]⟩
abbrev kGe : ByteArray := ⟨#[62, 61]⟩
abbrev wPermit : ByteArray := ⟨#[112, 101, 114, 109, 105, 116]⟩
abbrev wDeny : ByteArray := ⟨#[100, 101, 110, 121]⟩
abbrev wScope : ByteArray := ⟨#[115, 99, 111, 112, 101]⟩
abbrev wWhen : ByteArray := ⟨#[119, 104, 101, 110]⟩
abbrev wAnd : ByteArray := ⟨#[97, 110, 100]⟩
abbrev wOr : ByteArray := ⟨#[111, 114]⟩
abbrev wNot : ByteArray := ⟨#[110, 111, 116]⟩
abbrev wIn : ByteArray := ⟨#[105, 110]⟩
abbrev wHas : ByteArray := ⟨#[104, 97, 115]⟩
abbrev wTrue : ByteArray := ⟨#[116, 114, 117, 101]⟩
abbrev wFalse : ByteArray := ⟨#[102, 97, 108, 115, 101]⟩
abbrev wClaim : ByteArray := ⟨#[99, 108, 97, 105, 109]⟩
/-- The words that no variable may have. -/
def keptW : List ByteArray := [wPermit, wDeny, wWhen, wAnd, wOr, wNot, wIn, wHas, wTrue, wFalse, wClaim]
def kept (s : ByteArray) : Bool := keptW.any fun w => decide (w = s)
/-- An operand; 'orF': what reads within brackets (none: too deep). -/
def opdOf (orF : Option (List TokM → ResE)) (r : List TokM) : ResE :=
  if isT r 4 kOpen then
    match orF with
    | none => (ex0, r, 121)
    | some g =>
      if (g (r.drop 1)).2.2 ≠ 0 then g (r.drop 1)
      else if isT (g (r.drop 1)).2.1 4 kShut then ((g (r.drop 1)).1, (g (r.drop 1)).2.1.drop 1, 0) else (ex0, (g (r.drop 1)).2.1, 120)
  else if (hdT r).kind = 3 then (.mk 2 E0 (hdT r).num [] (hdT r).pos, r.drop 1, 0)
  else if (hdT r).kind = 2 then (.mk 3 (hdT r).text 0 [] (hdT r).pos, r.drop 1, 0)
  else if isT r 1 wTrue then (.mk 1 E0 1 [] (hdT r).pos, r.drop 1, 0)
  else if isT r 1 wFalse then (.mk 1 E0 0 [] (hdT r).pos, r.drop 1, 0)
  else if isT r 1 wClaim then
    if isT (r.drop 1) 4 kOpen = false then (ex0, r.drop 1, 120)
    else if (hdT (r.drop 2)).kind ≠ 2 then (ex0, r.drop 2, 120)
    else if isT (r.drop 3) 4 kShut = false then (ex0, r.drop 3, 120)
    else (.mk 5 (hdT (r.drop 2)).text 0 [] (hdT r).pos, r.drop 4, 0)
  else if (hdT r).kind = 1 ∧ kept (hdT r).text = false then (.mk 4 (hdT r).text 0 [] (hdT r).pos, r.drop 1, 0)
  else (ex0, r, 120)
/-- The op of a sign between operands (0: none), and whether they stand the other way round. -/
def signsT (t : TokM) : Int × Bool :=
  if t.kind = 1 ∧ t.text = wHas then (14, false)
  else if t.kind ≠ 4 then (0, false)
  else if t.text = kEq then (9, false)
  else if t.text = kNe then (10, false)
  else if t.text = kLt then (11, false)
  else if t.text = kLe then (12, false)
  else if t.text = kGt then (11, true)
  else if t.text = kGe then (12, true)
  else (0, false)
/-- Items, from [ or a comma on. -/
def itemsGo (opd : List TokM → ResE) (r : List TokM) : List Ex × List TokM × Int :=
  if (opd (r.drop 1)).2.2 ≠ 0 then ([], (opd (r.drop 1)).2)
  else if isT (opd (r.drop 1)).2.1 4 kRight then ([(opd (r.drop 1)).1], (opd (r.drop 1)).2.1.drop 1, 0)
  else if isT (opd (r.drop 1)).2.1 4 kComma = false then ([], (opd (r.drop 1)).2.1, 120)
  else if _h : (opd (r.drop 1)).2.1.length < r.length then ((opd (r.drop 1)).1 :: (itemsGo opd (opd (r.drop 1)).2.1).1, (itemsGo opd (opd (r.drop 1)).2.1).2)
  else ([], r, -1)
termination_by r.length
decreasing_by exact _h
def cmpOf (opd : List TokM → ResE) (r : List TokM) : ResE :=
  let a := opd r
  if a.2.2 ≠ 0 then a
  else if isT a.2.1 1 wIn then
    if isT (a.2.1.drop 1) 4 kLeft = false then (ex0, a.2.1.drop 1, 120)
    else
      let y := itemsGo opd (a.2.1.drop 1)
      if y.2.2 ≠ 0 then (ex0, y.2) else (.mk 13 E0 0 (a.1 :: y.1) (hdT a.2.1).pos, y.2.1, 0)
  else if (signsT (hdT a.2.1)).1 = 0 then a
  else
    let b := opd (a.2.1.drop 1)
    if b.2.2 ≠ 0 then b else (.mk (signsT (hdT a.2.1)).1 E0 0 (if (signsT (hdT a.2.1)).2 then [b.1, a.1] else [a.1, b.1]) (hdT a.2.1).pos, b.2.1, 0)
def notOf (nt : Option (List TokM → ResE)) (cmp : List TokM → ResE) (r : List TokM) : ResE :=
  if isT r 1 wNot = false then cmp r
  else match nt with
    | none => (ex0, r, 121)
    | some g => if (g (r.drop 1)).2.2 ≠ 0 then g (r.drop 1) else (.mk 6 E0 0 [(g (r.drop 1)).1] (hdT r).pos, (g (r.drop 1)).2.1, 0)
/-- What goes on with a word between, from the left. -/
def chainGo (word : ByteArray) (op : Int) (next : List TokM → ResE) (e : Ex) (r : List TokM) : ResE :=
  if isT r 1 word = false then (e, r, 0)
  else if (next (r.drop 1)).2.2 ≠ 0 then next (r.drop 1)
  else if _h : (next (r.drop 1)).2.1.length < r.length then chainGo word op next (.mk op E0 0 [e, (next (r.drop 1)).1] (hdT r).pos) (next (r.drop 1)).2.1
  else (ex0, r, -1)
termination_by r.length
decreasing_by exact _h
def linkOf (word : ByteArray) (op : Int) (next : List TokM → ResE) (r : List TokM) : ResE :=
  if (next r).2.2 ≠ 0 then next r else chainGo word op next (next r).1 (next r).2.1
/-- Reading with or between, and with not ahead, d levels left. -/
def lvl : Nat → (List TokM → ResE) × (List TokM → ResE)
  | 0 => (linkOf wOr 8 (linkOf wAnd 7 (notOf none (cmpOf (opdOf none)))), notOf none (cmpOf (opdOf none)))
  | d + 1 => (linkOf wOr 8 (linkOf wAnd 7 (notOf (some (lvl d).2) (cmpOf (opdOf (some (lvl d).1))))), notOf (some (lvl d).2) (cmpOf (opdOf (some (lvl d).1))))
def orD (d : Nat) : List TokM → ResE := (lvl d).1
def notD (d : Nat) : List TokM → ResE := (lvl d).2
def belowOr : Nat → Option (List TokM → ResE) | 0 => none | d + 1 => some (orD d)
def belowNot : Nat → Option (List TokM → ResE) | 0 => none | d + 1 => some (notD d)
def opdD (d : Nat) : List TokM → ResE := opdOf (belowOr d)
def cmpD (d : Nat) : List TokM → ResE := cmpOf (opdD d)
def andD (d : Nat) : List TokM → ResE := linkOf wAnd 7 (notD d)
theorem notD_is (d : Nat) : notD d = notOf (belowNot d) (cmpD d) := by cases d <;> rfl
theorem orD_is (d : Nat) : orD d = linkOf wOr 8 (andD d) := by cases d <;> rfl
/-! ### What is left -/
/-- Tokens, the end at last and nowhere else. -/
def Ends : List TokM → Prop
  | [] => False
  | [t] => t.kind = 5
  | t :: u :: r => t.kind ≠ 5 ∧ Ends (u :: r)
theorem Ends.tail {r : List TokM} (h : Ends r) (hk : (hdT r).kind ≠ 5) : Ends (r.drop 1) := by
  match r, h with
  | [t], h => exact absurd h hk
  | t :: u :: r, h => exact h.2
theorem isT_kind {r : List TokM} {k : Int} {s : ByteArray} (h : isT r k s = true) : (hdT r).kind = k ∧ (hdT r).text = s := of_decide_eq_true h
theorem Ends.next {r : List TokM} (h : Ends r) {k : Int} {s : ByteArray} (hi : isT r k s = true) (hk : k ≠ 5) : Ends (r.drop 1) := h.tail (by rw [(isT_kind hi).1]; exact hk)
theorem Ends.len {r : List TokM} (h : Ends r) : 0 < r.length := by
  cases r with
  | nil => exact absurd h (by simp [Ends])
  | cons t r => simp
/-- What is left is what stands at the end of the tokens; something is read, if all is right. -/
def Cuts (f : List TokM → ResE) : Prop := ∀ r, Ends r → ∃ k, (f r).2.1 = r.drop k ∧ Ends (r.drop k) ∧ ((f r).2.2 = 0 → 0 < k)
theorem Cuts.less {f : List TokM → ResE} (hf : Cuts f) {r : List TokM} (h : Ends r) (he : (f r).2.2 = 0) : (f r).2.1.length < r.length := by
  obtain ⟨k, e, _, h0⟩ := hf r h
  have := h0 he
  have := h.len
  rw [e, List.length_drop]; omega
theorem opdOf_cuts {g : Option (List TokM → ResE)} (hg : ∀ f, g = some f → Cuts f) : Cuts (opdOf g) := fun r h => by
  unfold opdOf
  by_cases h1 : isT r 4 kOpen = true
  · have hp := h.next h1 (by decide)
    rw [if_pos h1]
    cases g with
    | none => exact ⟨0, rfl, h, fun e => absurd e (show ¬ (121 : Int) = 0 by decide)⟩
    | some f =>
      obtain ⟨k, e1, e2, e3⟩ := hg f rfl (r.drop 1) hp
      rw [List.drop_drop] at e1 e2
      simp only
      by_cases h2 : (f (r.drop 1)).2.2 ≠ 0
      · rw [if_pos h2]; exact ⟨_, e1, e2, fun e => absurd e h2⟩
      · rw [if_neg h2]
        by_cases h3 : isT (f (r.drop 1)).2.1 4 kShut = true
        · rw [if_pos h3]
          rw [e1] at h3
          have h4 := e2.next h3 (by decide)
          rw [List.drop_drop] at h4
          exact ⟨1 + k + 1, by show (f (r.drop 1)).2.1.drop 1 = _; rw [e1, List.drop_drop], h4, fun _ => by omega⟩
        · rw [if_neg h3]; exact ⟨_, e1, e2, fun e => absurd e (show ¬ (120 : Int) = 0 by decide)⟩
  rw [if_neg h1]
  by_cases h2 : (hdT r).kind = 3
  · rw [if_pos h2]; exact ⟨1, rfl, h.tail (by rw [h2]; decide), fun _ => by omega⟩
  rw [if_neg h2]
  by_cases h3 : (hdT r).kind = 2
  · rw [if_pos h3]; exact ⟨1, rfl, h.tail (by rw [h3]; decide), fun _ => by omega⟩
  rw [if_neg h3]
  by_cases h4 : isT r 1 wTrue = true
  · rw [if_pos h4]; exact ⟨1, rfl, h.next h4 (by decide), fun _ => by omega⟩
  rw [if_neg h4]
  by_cases h5 : isT r 1 wFalse = true
  · rw [if_pos h5]; exact ⟨1, rfl, h.next h5 (by decide), fun _ => by omega⟩
  rw [if_neg h5]
  by_cases h6 : isT r 1 wClaim = true
  · have k1 := h.next h6 (by decide)
    rw [if_pos h6]
    by_cases h7 : isT (r.drop 1) 4 kOpen = false
    · rw [if_pos h7]; exact ⟨1, rfl, k1, fun e => absurd e (show ¬ (120 : Int) = 0 by decide)⟩
    rw [if_neg h7]
    have k2 := k1.next (Bool.not_eq_false _ |>.mp h7) (by decide)
    rw [List.drop_drop] at k2
    by_cases h8 : (hdT (r.drop 2)).kind ≠ 2
    · rw [if_pos h8]; exact ⟨2, rfl, k2, fun e => absurd e (show ¬ (120 : Int) = 0 by decide)⟩
    rw [if_neg h8]
    have k3 := k2.tail (by rw [Decidable.of_not_not h8]; decide)
    rw [List.drop_drop] at k3
    by_cases h9 : isT (r.drop 3) 4 kShut = false
    · rw [if_pos h9]; exact ⟨3, rfl, k3, fun e => absurd e (show ¬ (120 : Int) = 0 by decide)⟩
    rw [if_neg h9]
    have k4 := k3.next (Bool.not_eq_false _ |>.mp h9) (by decide)
    rw [List.drop_drop] at k4
    exact ⟨4, rfl, k4, fun _ => by omega⟩
  rw [if_neg h6]
  by_cases h7 : (hdT r).kind = 1 ∧ kept (hdT r).text = false
  · rw [if_pos h7]; exact ⟨1, rfl, h.tail (by rw [h7.1]; decide), fun _ => by omega⟩
  · rw [if_neg h7]; exact ⟨0, rfl, h, fun e => absurd e (show ¬ (120 : Int) = 0 by decide)⟩
theorem itemsGo_cuts {opd : List TokM → ResE} (ho : Cuts opd) (r : List TokM) (hr : Ends (r.drop 1)) : ∃ k, (itemsGo opd r).2.1 = r.drop k ∧ Ends (r.drop k) ∧ ((itemsGo opd r).2.2 = 0 → 1 < k) := by
  obtain ⟨k, e1, e2, e3⟩ := ho _ hr
  rw [List.drop_drop] at e1 e2
  have hl := hr.len
  rw [List.length_drop] at hl
  rw [itemsGo]
  by_cases h1 : (opd (r.drop 1)).2.2 ≠ 0
  · rw [if_pos h1]; exact ⟨_, e1, e2, fun e => absurd e h1⟩
  have hk := e3 (Decidable.of_not_not h1)
  rw [if_neg h1]
  by_cases h2 : isT (opd (r.drop 1)).2.1 4 kRight = true
  · rw [if_pos h2]
    rw [e1] at h2
    have h4 := e2.next h2 (by decide)
    rw [List.drop_drop] at h4
    exact ⟨1 + k + 1, by show (opd (r.drop 1)).2.1.drop 1 = _; rw [e1, List.drop_drop], h4, fun _ => by omega⟩
  rw [if_neg h2]
  by_cases h3 : isT (opd (r.drop 1)).2.1 4 kComma = false
  · rw [if_pos h3]; exact ⟨_, e1, e2, fun e => absurd e (show ¬ (120 : Int) = 0 by decide)⟩
  rw [if_neg h3]
  have hlt : (opd (r.drop 1)).2.1.length < r.length := by rw [e1, List.length_drop]; omega
  rw [dif_pos hlt]
  have h4 := Bool.not_eq_false _ |>.mp h3
  rw [e1] at h4
  have h5 := e2.next h4 (by decide)
  obtain ⟨j, f1, f2, f3⟩ := itemsGo_cuts ho (opd (r.drop 1)).2.1 (by rw [e1]; exact h5)
  rw [e1, List.drop_drop] at f2
  refine ⟨1 + k + j, ?_, f2, fun e => ?_⟩
  · show (itemsGo opd (opd (r.drop 1)).2.1).2.1 = _
    rw [f1, e1, List.drop_drop]
  · have := f3 e
    omega
termination_by r.length
decreasing_by exact hlt
theorem cmpOf_cuts {opd : List TokM → ResE} (ho : Cuts opd) : Cuts (cmpOf opd) := fun r h => by
  obtain ⟨k, e1, e2, e3⟩ := ho r h
  unfold cmpOf
  simp only
  by_cases h1 : (opd r).2.2 ≠ 0
  · rw [if_pos h1]; exact ⟨k, e1, e2, fun e => absurd e h1⟩
  have hk := e3 (Decidable.of_not_not h1)
  rw [if_neg h1]
  by_cases h2 : isT (opd r).2.1 1 wIn = true
  · rw [if_pos h2]
    rw [e1] at h2 ⊢
    have h3 := e2.next h2 (by decide)
    rw [List.drop_drop] at h3 ⊢
    by_cases h4 : isT (r.drop (k + 1)) 4 kLeft = false
    · rw [if_pos h4]; exact ⟨k + 1, rfl, h3, fun e => absurd e (show ¬ (120 : Int) = 0 by decide)⟩
    rw [if_neg h4]
    have h5 := h3.next (Bool.not_eq_false _ |>.mp h4) (by decide)
    obtain ⟨j, f1, f2, f3⟩ := itemsGo_cuts ho (r.drop (k + 1)) h5
    rw [List.drop_drop] at f1 f2
    by_cases h6 : (itemsGo opd (r.drop (k + 1))).2.2 ≠ 0
    · rw [if_pos h6]; exact ⟨_, f1, f2, fun e => absurd e h6⟩
    · rw [if_neg h6]; exact ⟨_, f1, f2, fun _ => by omega⟩
  rw [if_neg h2]
  by_cases h3 : (signsT (hdT (opd r).2.1)).1 = 0
  · rw [if_pos h3]; exact ⟨k, e1, e2, e3⟩
  rw [if_neg h3]
  have h4 : Ends (r.drop (k + 1)) := by
    have := e2.tail (fun e => h3 (by rw [e1]; unfold signsT; rw [if_neg (fun h => by have := h.1; rw [e] at this; exact absurd this (by decide)), if_pos (by rw [e]; decide)]))
    rwa [List.drop_drop] at this
  obtain ⟨j, f1, f2, f3⟩ := ho _ h4
  rw [e1, List.drop_drop]
  rw [List.drop_drop] at f1 f2
  by_cases h6 : (opd (r.drop (k + 1))).2.2 ≠ 0
  · rw [if_pos h6]; exact ⟨_, f1, f2, fun e => absurd e h6⟩
  · rw [if_neg h6]; exact ⟨_, f1, f2, fun _ => by omega⟩
theorem notOf_cuts {g : Option (List TokM → ResE)} {cmp : List TokM → ResE} (hg : ∀ f, g = some f → Cuts f) (hc : Cuts cmp) : Cuts (notOf g cmp) := fun r h => by
  unfold notOf
  by_cases h1 : isT r 1 wNot = false
  · rw [if_pos h1]; exact hc r h
  rw [if_neg h1]
  have hp := h.next (Bool.not_eq_false _ |>.mp h1) (by decide)
  cases g with
  | none => exact ⟨0, rfl, h, fun e => absurd e (show ¬ (121 : Int) = 0 by decide)⟩
  | some f =>
    obtain ⟨k, e1, e2, e3⟩ := hg f rfl (r.drop 1) hp
    rw [List.drop_drop] at e1 e2
    simp only
    by_cases h2 : (f (r.drop 1)).2.2 ≠ 0
    · rw [if_pos h2]; exact ⟨_, e1, e2, fun e => absurd e h2⟩
    · rw [if_neg h2]; exact ⟨_, e1, e2, fun _ => by omega⟩
theorem chainGo_cuts {word : ByteArray} {op : Int} {next : List TokM → ResE} (hn : Cuts next) (e : Ex) (r : List TokM) (hr : Ends r) : ∃ k, (chainGo word op next e r).2.1 = r.drop k ∧ Ends (r.drop k) := by
  rw [chainGo]
  by_cases h1 : isT r 1 word = false
  · rw [if_pos h1]; exact ⟨0, rfl, hr⟩
  rw [if_neg h1]
  have hp := hr.next (Bool.not_eq_false _ |>.mp h1) (by decide)
  obtain ⟨k, e1, e2, e3⟩ := hn _ hp
  rw [List.drop_drop] at e1 e2
  by_cases h2 : (next (r.drop 1)).2.2 ≠ 0
  · rw [if_pos h2]; exact ⟨_, e1, e2⟩
  rw [if_neg h2]
  have hl := hr.len
  have hlt : (next (r.drop 1)).2.1.length < r.length := by rw [e1, List.length_drop]; omega
  rw [dif_pos hlt]
  obtain ⟨j, f1, f2⟩ := chainGo_cuts (word := word) (op := op) hn (.mk op E0 0 [e, (next (r.drop 1)).1] (hdT r).pos) (next (r.drop 1)).2.1 (by rw [e1]; exact e2)
  rw [e1, List.drop_drop] at f2
  exact ⟨1 + k + j, by rw [f1, e1, List.drop_drop], f2⟩
termination_by r.length
decreasing_by exact hlt
theorem linkOf_cuts {word : ByteArray} {op : Int} {next : List TokM → ResE} (hn : Cuts next) : Cuts (linkOf word op next) := fun r h => by
  obtain ⟨k, e1, e2, e3⟩ := hn r h
  unfold linkOf
  by_cases h1 : (next r).2.2 ≠ 0
  · rw [if_pos h1]; exact ⟨k, e1, e2, fun e => absurd e h1⟩
  rw [if_neg h1]
  have hk := e3 (Decidable.of_not_not h1)
  obtain ⟨j, f1, f2⟩ := chainGo_cuts (word := word) (op := op) hn (next r).1 (next r).2.1 (by rw [e1]; exact e2)
  rw [e1, List.drop_drop] at f2
  exact ⟨k + j, by rw [f1, e1, List.drop_drop], f2, fun _ => by omega⟩
theorem lvl_cuts : ∀ d, Cuts (orD d) ∧ Cuts (notD d)
  | 0 => by
    have h : Cuts (notD 0) := by rw [notD_is]; exact notOf_cuts (fun f e => by cases e) (cmpOf_cuts (opdOf_cuts fun f e => by cases e))
    exact ⟨by rw [orD_is]; exact linkOf_cuts (linkOf_cuts h), h⟩
  | d + 1 => by
    have ih := lvl_cuts d
    have h : Cuts (notD (d + 1)) := by
      rw [notD_is]
      exact notOf_cuts (fun f e => by cases e; exact ih.2) (cmpOf_cuts (opdOf_cuts fun f e => by cases e; exact ih.1))
    exact ⟨by rw [orD_is]; exact linkOf_cuts (linkOf_cuts h), h⟩
theorem opdD_cuts (d : Nat) : Cuts (opdD d) := opdOf_cuts fun f e => by
  cases d with
  | zero => cases e
  | succ d => cases e; exact (lvl_cuts d).1
theorem andD_cuts (d : Nat) : Cuts (andD d) := linkOf_cuts (lvl_cuts d).2
end Go.Proofs.YtcjfealalokjaaaGreatDoor
namespace Go.Proofs.YtcjfealalokjaaaGreatDoor
open Go Go.RowKit
def Ex.op : Ex → Int | .mk op _ _ _ _ => op
/-- How much an op binds. -/
def bindE (op : Int) : Nat := if op ≤ 5 then 5 else if op = 6 then 3 else if op = 7 then 2 else if op = 8 then 1 else 4
theorem bindE_pos (op : Int) : 1 ≤ bindE op ∧ bindE op ≤ 5 := by unfold bindE; split <;> (try split) <;> (try split) <;> (try split) <;> omega
def wordT (s : ByteArray) : TokM := ⟨1, s, 0, 0⟩
def signT (s : ByteArray) : TokM := ⟨4, s, 0, 0⟩
/-! ### What is read fits -/
def AllOwn (r : List TokM) : Prop := ∀ t ∈ r, t.kind ≠ 5 → Own t
theorem AllOwn.drop {r : List TokM} (h : AllOwn r) (k : Nat) : AllOwn (r.drop k) := fun t ht => h t (List.mem_of_mem_drop ht)
end Go.Proofs.YtcjfealalokjaaaGreatDoor
namespace Go.Proofs.YtcjfealalokjaaaGreatDoor
open Go Go.RowKit
/-! ### Heads -/
theorem kept_ne {s w : ByteArray} (h : kept s = false) (hw : w ∈ keptW) : s ≠ w := fun e => by
  subst e
  have : kept s = true := List.any_eq_true.2 ⟨s, hw, decide_eq_true rfl⟩
  rw [h] at this; cases this
/-! ### Reading at each level -/
end Go.Proofs.YtcjfealalokjaaaGreatDoor
namespace Go.Proofs.YtcjfealalokjaaaGreatDoor
open Go Go.RowKit
structure RuleM where
  deny : Bool
  scopes : List ByteArray
  whens : List Ex
  pos : Int
def rule0 : RuleM := ⟨false, [], [], 0⟩
/-- Texts, from 'scope' or a comma on. -/
def scopesGo (r : List TokM) : List ByteArray × List TokM × Int :=
  if (hdT (r.drop 1)).kind ≠ 2 then ([], r.drop 1, 120)
  else if isT (r.drop 2) 4 kComma = false then ([(hdT (r.drop 1)).text], r.drop 2, 0)
  else if _h : (r.drop 2).length < r.length then
    if (scopesGo (r.drop 2)).2.2 ≠ 0 then ([], (scopesGo (r.drop 2)).2) else ((hdT (r.drop 1)).text :: (scopesGo (r.drop 2)).1, (scopesGo (r.drop 2)).2.1, 0)
  else ([], r, -1)
termination_by r.length
decreasing_by all_goals exact _h
def scopesP (r : List TokM) : List ByteArray × List TokM × Int := if isT r 1 wScope = true then scopesGo r else ([], r, 0)
/-- What stands behind the scopes of a rule. -/
def whenP (r : List TokM) : List Ex × List TokM × Int :=
  if isT r 1 wWhen = true then
    if (orD 12 (r.drop 1)).2.2 ≠ 0 then ([], (orD 12 (r.drop 1)).2) else ([(orD 12 (r.drop 1)).1], (orD 12 (r.drop 1)).2.1, 0)
  else ([], r, 0)
def ruleP (r : List TokM) : RuleM × List TokM × Int :=
  if isT r 1 wDeny = false ∧ isT r 1 wPermit = false then (rule0, r, 120)
  else if (scopesP (r.drop 1)).2.2 ≠ 0 then (rule0, (scopesP (r.drop 1)).2)
  else if (whenP (scopesP (r.drop 1)).2.1).2.2 ≠ 0 then (rule0, (whenP (scopesP (r.drop 1)).2.1).2)
  else if isT (whenP (scopesP (r.drop 1)).2.1).2.1 4 kSemi = false then (rule0, (whenP (scopesP (r.drop 1)).2.1).2.1, 120)
  else (⟨isT r 1 wDeny, (scopesP (r.drop 1)).1, (whenP (scopesP (r.drop 1)).2.1).1, (hdT r).pos⟩, (whenP (scopesP (r.drop 1)).2.1).2.1.drop 1, 0)
/-- Rules, behind k of them: the rules, the error, its place. -/
def rulesGo (k : Nat) (r : List TokM) : List RuleM × Int × Int :=
  if (hdT r).kind = 5 then ([], 0, -1)
  else if k = 16 ∧ (isT r 1 wPermit = true ∨ isT r 1 wDeny = true) then ([], 132, (hdT r).pos)
  else if (ruleP r).2.2 ≠ 0 then ([], (ruleP r).2.2, (hdT (ruleP r).2.1).pos)
  else if _h : (ruleP r).2.1.length < r.length then
    if (rulesGo (k + 1) (ruleP r).2.1).2.1 ≠ 0 then ([], (rulesGo (k + 1) (ruleP r).2.1).2) else ((ruleP r).1 :: (rulesGo (k + 1) (ruleP r).2.1).1, 0, -1)
  else ([], -1, -1)
termination_by r.length
decreasing_by all_goals exact _h
/-- A policy's text, read: the rules, the error, its place. -/
def parseL (s : List Int) : List RuleM × Int × Int := if (scanL s).2.1 ≠ 0 then ([], (scanL s).2) else rulesGo 0 (scanL s).1
/-! ### What is left -/
theorem scopesGo_cuts (r : List TokM) (hr : Ends (r.drop 1)) : ∃ k, (scopesGo r).2.1 = r.drop k ∧ Ends (r.drop k) := by
  rw [scopesGo]
  by_cases h1 : (hdT (r.drop 1)).kind ≠ 2
  · rw [if_pos h1]; exact ⟨1, rfl, hr⟩
  rw [if_neg h1]
  have h2 := hr.tail (by rw [Decidable.of_not_not h1]; decide)
  rw [List.drop_drop] at h2
  by_cases h3 : isT (r.drop 2) 4 kComma = false
  · rw [if_pos h3]; exact ⟨2, rfl, h2⟩
  rw [if_neg h3]
  have hl := h2.len
  have hlt : (r.drop 2).length < r.length := by rw [List.length_drop] at hl ⊢; omega
  rw [dif_pos hlt]
  obtain ⟨k, e1, e2⟩ := scopesGo_cuts (r.drop 2) (h2.next (Bool.not_eq_false _ |>.mp h3) (by decide))
  rw [List.drop_drop] at e1 e2
  by_cases h4 : (scopesGo (r.drop 2)).2.2 ≠ 0
  · rw [if_pos h4]; exact ⟨_, e1, e2⟩
  · rw [if_neg h4]; exact ⟨_, e1, e2⟩
termination_by r.length
decreasing_by exact hlt
theorem scopesP_cuts (r : List TokM) (hr : Ends r) : ∃ k, (scopesP r).2.1 = r.drop k ∧ Ends (r.drop k) := by
  unfold scopesP
  by_cases h : isT r 1 wScope = true
  · rw [if_pos h]; exact scopesGo_cuts r (hr.next h (by decide))
  · rw [if_neg h]; exact ⟨0, rfl, hr⟩
theorem whenP_cuts (r : List TokM) (hr : Ends r) : ∃ k, (whenP r).2.1 = r.drop k ∧ Ends (r.drop k) := by
  unfold whenP
  by_cases h : isT r 1 wWhen = true
  · rw [if_pos h]
    obtain ⟨k, e1, e2, _⟩ := (lvl_cuts 12).1 _ (hr.next h (by decide))
    rw [List.drop_drop] at e1 e2
    by_cases h2 : (orD 12 (r.drop 1)).2.2 ≠ 0
    · rw [if_pos h2]; exact ⟨_, e1, e2⟩
    · rw [if_neg h2]; exact ⟨_, e1, e2⟩
  · rw [if_neg h]; exact ⟨0, rfl, hr⟩
theorem ruleP_cuts (r : List TokM) (hr : Ends r) : ∃ k, (ruleP r).2.1 = r.drop k ∧ Ends (r.drop k) ∧ ((ruleP r).2.2 = 0 → 0 < k) := by
  unfold ruleP
  by_cases h1 : isT r 1 wDeny = false ∧ isT r 1 wPermit = false
  · rw [if_pos h1]; exact ⟨0, rfl, hr, fun e => absurd e (show ¬ (120 : Int) = 0 by decide)⟩
  rw [if_neg h1]
  have h2 : Ends (r.drop 1) := by
    cases hd : isT r 1 wDeny with
    | true => exact hr.next hd (by decide)
    | false =>
      cases hp : isT r 1 wPermit with
      | true => exact hr.next hp (by decide)
      | false => exact absurd ⟨hd, hp⟩ h1
  obtain ⟨k, e1, e2⟩ := scopesP_cuts _ h2
  have f2 := e2
  rw [List.drop_drop] at e1 e2
  by_cases h3 : (scopesP (r.drop 1)).2.2 ≠ 0
  · rw [if_pos h3]; exact ⟨_, e1, e2, fun e => absurd e h3⟩
  rw [if_neg h3]
  obtain ⟨j, g1, g2⟩ := whenP_cuts (scopesP (r.drop 1)).2.1 (by rw [e1]; exact e2)
  rw [e1, List.drop_drop] at g1 g2
  rw [e1]
  by_cases h4 : (whenP (r.drop (1 + k))).2.2 ≠ 0
  · rw [if_pos h4]; exact ⟨_, g1, g2, fun e => absurd e h4⟩
  rw [if_neg h4, g1]
  by_cases h5 : isT (r.drop (1 + k + j)) 4 kSemi = false
  · rw [if_pos h5]; exact ⟨_, rfl, g2, fun e => absurd e (show ¬ (120 : Int) = 0 by decide)⟩
  rw [if_neg h5]
  have g3 := g2.next (Bool.not_eq_false _ |>.mp h5) (by decide)
  rw [List.drop_drop] at g3
  exact ⟨_, List.drop_drop, g3, fun _ => by omega⟩
/-! ### What is read fits -/
def headW (deny : Bool) : ByteArray := if deny then wDeny else wPermit
end Go.Proofs.YtcjfealalokjaaaGreatDoor
namespace Go.Proofs.YtcjfealalokjaaaGreatDoor
open Go Go.RowKit
def saidT (t : TokM) : ByteArray := if t.kind = 1 ∨ t.kind = 4 then t.text else E0
theorem allOwn_hd {r : List TokM} (h : AllOwn r) (hk : (hdT r).kind ≠ 5) : Own (hdT r) := by
  cases r with
  | nil => exact absurd rfl hk
  | cons t r => exact h t (by simp) hk
theorem said_word {r : List TokM} {w : ByteArray} (ho : AllOwn r) (hw : spellN (signT w) = []) (hne : w ≠ E0) : decide (saidT (hdT r) = w) = isT r 1 w := by
  unfold isT saidT
  by_cases h1 : (hdT r).kind = 1
  · rw [if_pos (.inl h1)]; simp [h1]
  by_cases h4 : (hdT r).kind = 4
  · rw [if_pos (.inr h4)]
    have := (allOwn_hd ho (by rw [h4]; decide)).1
    have e : ¬ (hdT r).text = w := fun e => by
      apply this
      rw [← hw, ← e]
      unfold spellN
      rw [h4]; rfl
    simp [h1, e]
  · rw [if_neg (by omega)]
    have e : ¬ E0 = w := fun e => hne e.symm
    simp [h1, e]
theorem said_sign {r : List TokM} {w : ByteArray} (ho : AllOwn r) (hw : spellN (wordT w) = []) (hne : w ≠ E0) : decide (saidT (hdT r) = w) = isT r 4 w := by
  unfold isT saidT
  by_cases h4 : (hdT r).kind = 4
  · rw [if_pos (.inr h4)]; simp [h4]
  by_cases h1 : (hdT r).kind = 1
  · rw [if_pos (.inl h1)]
    have := (allOwn_hd ho (by rw [h1]; decide)).1
    have e : ¬ (hdT r).text = w := fun e => by
      apply this
      rw [← hw, ← e]
      unfold spellN
      rw [h1]; rfl
    simp [h4, e]
  · rw [if_neg (by omega)]
    have e : ¬ E0 = w := fun e => hne e.symm
    simp [h4, e]
/-- The op that a word or sign between operands stands for. -/
def opS (s : ByteArray) : Int × Bool := if s = kEq then (9, false) else if s = kNe then (10, false) else if s = wHas then (14, false) else if s = kGt then (11, true) else if s = kLt then (11, false) else if s = kGe then (12, true) else if s = kLe then (12, false) else (0, false)
theorem op_said {r : List TokM} (ho : AllOwn r) : opS (saidT (hdT r)) = signsT (hdT r) := by
  have key : ∀ (w : ByteArray), saidT (hdT r) = w ↔ decide (saidT (hdT r) = w) = true := fun w => (decide_eq_true_iff).symm
  have hs : ∀ (w : ByteArray), spellN (wordT w) = [] → w ≠ E0 → (saidT (hdT r) = w ↔ (hdT r).kind = 4 ∧ (hdT r).text = w) := fun w h1 h2 => by
    rw [key, said_sign ho h1 h2]; exact decide_eq_true_iff
  have hh : saidT (hdT r) = wHas ↔ (hdT r).kind = 1 ∧ (hdT r).text = wHas := by
    rw [key, said_word ho (by decide) (by decide)]; exact decide_eq_true_iff
  unfold opS signsT
  simp only [hs kEq (by decide) (by decide), hs kNe (by decide) (by decide), hs kGt (by decide) (by decide), hs kLt (by decide) (by decide), hs kGe (by decide) (by decide), hs kLe (by decide) (by decide), hh]
  by_cases h1 : (hdT r).kind = 1 ∧ (hdT r).text = wHas
  · rw [if_pos h1, h1.1]; simp [h1.2]
  · rw [if_neg h1]
    by_cases h4 : (hdT r).kind = 4
    · have e41 : ((4 : Int) = 1 ∧ (hdT r).text = wHas) = False := by simp
      simp only [h4, true_and, ne_eq, not_true_eq_false, if_false, e41]
      by_cases e1 : (hdT r).text = kEq
      · rw [if_pos e1, if_pos e1]
      rw [if_neg e1, if_neg e1]
      by_cases e2 : (hdT r).text = kNe
      · rw [if_pos e2, if_pos e2]
      rw [if_neg e2, if_neg e2]
      by_cases e3 : (hdT r).text = kGt
      · rw [if_pos e3, e3]; decide
      rw [if_neg e3]
      by_cases e4 : (hdT r).text = kLt
      · rw [if_pos e4, if_pos e4]
      rw [if_neg e4, if_neg e4]
      by_cases e5 : (hdT r).text = kGe
      · rw [if_pos e5, e5]; decide
      rw [if_neg e5]
      by_cases e6 : (hdT r).text = kLe
      · rw [if_pos e6, if_pos e6]
      rw [if_neg e6, if_neg e6, if_neg e3, if_neg e5]
    · simp [h1, h4]
theorem small_not_sign {c : Int} (h : smallC c = true) : oneC c = false ∧ ¬ (c = 33 ∨ c = 60 ∨ c = 62) := by
  unfold smallC at h
  unfold oneC
  simp only [Bool.and_eq_true, decide_eq_true_eq, decide_eq_false_iff_not] at h ⊢
  omega
theorem word_not_sign {c : Int} {l : List Int} (hw : wordN (c :: l) = l.length + 1) (hs : signN (c :: l) = l.length + 1) : False := by
  rw [wordN] at hw
  by_cases h : smallC c = true
  · obtain ⟨h1, h2⟩ := small_not_sign h
    cases l with
    | nil => rw [signN, h1] at hs; exact absurd hs (by decide)
    | cons d r =>
      rw [signN, if_neg (fun k => h2 k.2), h1] at hs
      exact absurd hs (by simp)
  · rw [if_neg h] at hw; cases hw
/-- May what is said name a variable? -/
theorem var_said {r : List TokM} (ho : AllOwn r) : (decide (kept (saidT (hdT r)) = false) && !(decide (spellN (wordT (saidT (hdT r))) = []))) = decide ((hdT r).kind = 1 ∧ kept (hdT r).text = false) := by
  unfold saidT
  by_cases h1 : (hdT r).kind = 1
  · rw [if_pos (.inl h1)]
    have := (allOwn_hd ho (by rw [h1]; decide)).1
    have e : spellN (wordT (hdT r).text) = spellN (hdT r) := by unfold spellN; rw [h1]; rfl
    rw [e]
    simp [h1, this]
  by_cases h4 : (hdT r).kind = 4
  · rw [if_pos (.inr h4)]
    have := (allOwn_hd ho (by rw [h4]; decide))
    have e : spellN (wordT (hdT r).text) = [] := by
      have h := this.1
      unfold spellN at h
      rw [h4] at h
      show (if wordN (strL (hdT r).text) = (hdT r).text.size ∧ (hdT r).text.size ≤ 32 then strL (hdT r).text else []) = []
      rw [if_neg (by decide), if_neg (by decide), if_neg (by decide), if_pos rfl] at h
      by_cases hw : wordN (strL (hdT r).text) = (hdT r).text.size ∧ (hdT r).text.size ≤ 32
      · exfalso
        by_cases hs : signN (strL (hdT r).text) = (hdT r).text.size
        · rw [if_pos hs] at h
          cases hl : strL (hdT r).text with
          | nil => exact h hl
          | cons c l =>
            rw [hl] at hs hw
            have hsz : (hdT r).text.size = l.length + 1 := by rw [← length_strL, hl]; rfl
            rw [hsz] at hs hw
            exact word_not_sign hw.1 hs
        · rw [if_neg hs] at h; exact h rfl
      · rw [if_neg hw]
    rw [e]; simp [h1]
  · rw [if_neg (by omega)]
    have e : spellN (wordT E0) = [] := by decide
    rw [e]; simp [h1]
end Go.Proofs.YtcjfealalokjaaaGreatDoor
namespace Go.Proofs.YtcjfealalokjaaaGreatDoor
open Go Go.RowKit
def Ex.text : Ex → ByteArray | .mk _ s _ _ _ => s
def Ex.num : Ex → Int | .mk _ _ n _ _ => n
def Ex.parts : Ex → List Ex | .mk _ _ _ l _ => l
def Ex.pos : Ex → Int | .mk _ _ _ _ p => p
theorem Ex.ind {P : Ex → Prop} (h : ∀ op s n l p, (∀ x ∈ l, P x) → P (.mk op s n l p)) : ∀ e, P e
  | .mk op s n l p => h op s n l p (go l)
where go : ∀ l : List Ex, ∀ x ∈ l, P x
  | [], x, hx => by cases hx
  | y :: r, x, hx => by
    rcases List.mem_cons.1 hx with e | hx
    · rw [e]; exact Ex.ind h y
    · exact go r x hx
/-- A struct of five cells. -/
def FiveE (W : World) (b o : Nat) (v : Value) : Prop :=
  ∃ a0 a1 a2 a3 a4, v = .agg #[a0, a1, a2, a3, a4] ∧ W.cell? ⟨b, o, none⟩ = some a0 ∧ W.cell? ⟨b, o + 1, none⟩ = some a1 ∧ W.cell? ⟨b, o + 2, none⟩ = some a2 ∧ W.cell? ⟨b, o + 3, none⟩ = some a3 ∧ W.cell? ⟨b, o + 4, none⟩ = some a4
mutual
/-- An expression all of whose blocks are of S. -/
def RepE (W : World) (S : Nat → Prop) : Ex → Value → Prop
  | .mk op s n l p, v => ∃ A c, v = .agg #[.int .i64 op, .string s, .int .i64 n, .slice A l.length c, .int .i64 p] ∧ s.size ≤ 9223372036854775807 ∧ (l.length ≤ c ∧ c ≤ 9223372036854775807) ∧
    (l ≠ [] → ∃ b o, A = some ⟨b, o, none⟩ ∧ S b ∧ b < W.heap.size ∧ RepEs W S b o l)
/-- Expressions one behind the other in a block. -/
def RepEs (W : World) (S : Nat → Prop) (b o : Nat) : List Ex → Prop
  | [] => True
  | x :: r => (∃ v, RepE W S x v ∧ FiveE W b o v) ∧ RepEs W S b (o + 5) r
end
/-- The same blocks of S. -/
def Keeps (S : Nat → Prop) (W W' : World) : Prop := W.heap.size ≤ W'.heap.size ∧ ∀ b, S b → b < W.heap.size → W'.heap[b]? = W.heap[b]?
theorem Keeps.cell {S : Nat → Prop} {W W' : World} (h : Keeps S W W') {b : Nat} (hS : S b) (hb : b < W.heap.size) (o : Nat) : W'.cell? ⟨b, o, none⟩ = W.cell? ⟨b, o, none⟩ := by
  simp [World.cell?, h.2 b hS hb]
theorem Keeps.refl (S : Nat → Prop) (W : World) : Keeps S W W := ⟨Nat.le_refl _, fun _ _ _ => rfl⟩
theorem Keeps.trans {S : Nat → Prop} {W W' W2 : World} (h : Keeps S W W') (h2 : Keeps S W' W2) : Keeps S W W2 := ⟨Nat.le_trans h.1 h2.1, fun b hS hb => (h2.2 b hS (Nat.lt_of_lt_of_le hb h.1)).trans (h.2 b hS hb)⟩
theorem Keeps.below {S : Nat → Prop} {W W' : World} {B : Nat} (h : Below B W W') (hS : ∀ b, S b → b < W.heap.size → b < B) : Keeps S W W' := ⟨h.size, fun b hb hl => h.block b (hS b hb hl)⟩
theorem Keeps.grown {S : Nat → Prop} {W W' : World} {row : Option Nat} (h : W.grownBy W' row) (hS : ∀ b, S b → some b ≠ row) : Keeps S W W' := ⟨h.size, fun b hb hl => h.block b hl (hS b hb)⟩
theorem Keeps.mono {S T : Nat → Prop} {W W' : World} (h : Keeps T W W') (hS : ∀ b, S b → b < W.heap.size → T b) : Keeps S W W' := ⟨h.1, fun b hb hl => h.2 b (hS b hb hl) hl⟩
theorem FiveE.keeps {S : Nat → Prop} {W W' : World} {b o : Nat} {v : Value} (h : FiveE W b o v) (hS : S b) (hlt : b < W.heap.size) (hk : Keeps S W W') : FiveE W' b o v := by
  obtain ⟨a0, a1, a2, a3, a4, e, h0, h1, h2, h3, h4⟩ := h
  exact ⟨a0, a1, a2, a3, a4, e, (hk.cell hS hlt _).trans h0, (hk.cell hS hlt _).trans h1, (hk.cell hS hlt _).trans h2, (hk.cell hS hlt _).trans h3, (hk.cell hS hlt _).trans h4⟩
theorem RepE.keeps {S T : Nat → Prop} {W W' : World} (hk : Keeps S W W') (hT : ∀ b, S b → b < W.heap.size → T b) : ∀ (j : Ex) (v : Value), RepE W S j v → RepE W' T j v := fun j => by
  induction j using Ex.ind with
  | h op s n l p ih =>
    intro v h
    rw [RepE] at h ⊢
    obtain ⟨A, c, e, hs, hl, hc⟩ := h
    refine ⟨A, c, e, hs, hl, fun hne => ?_⟩
    obtain ⟨b, o, e1, hS, hlt, hcs⟩ := hc hne
    refine ⟨b, o, e1, hT b hS hlt, Nat.lt_of_lt_of_le hlt hk.1, ?_⟩
    have key : ∀ (l : List Ex) (o : Nat), (∀ x ∈ l, ∀ v, RepE W S x v → RepE W' T x v) → RepEs W S b o l → RepEs W' T b o l := fun l => by
      induction l with
      | nil => intro o _ _; rw [RepEs]; trivial
      | cons x r ihr =>
        intro o ih h
        rw [RepEs] at h ⊢
        obtain ⟨⟨v, h1, h2⟩, h3⟩ := h
        exact ⟨⟨v, ih x (by simp) v h1, h2.keeps hS hlt hk⟩, ihr (o + 5) (fun y hy => ih y (List.mem_cons_of_mem _ hy)) h3⟩
    exact key l o ih hcs
theorem repEs_keeps {S T : Nat → Prop} {W W' : World} (hk : Keeps S W W') (hT : ∀ b, S b → b < W.heap.size → T b) {b : Nat} (hS : S b) (hlt : b < W.heap.size) : ∀ (l : List Ex) (o : Nat), RepEs W S b o l → RepEs W' T b o l := fun l => by
  induction l with
  | nil => intro o _; rw [RepEs]; trivial
  | cons x r ihr =>
    intro o h
    rw [RepEs] at h ⊢
    obtain ⟨⟨v, h1, h2⟩, h3⟩ := h
    exact ⟨⟨v, RepE.keeps hk hT x v h1, h2.keeps hS hlt hk⟩, ihr (o + 5) h3⟩
theorem RepE.open {W : World} {S : Nat → Prop} {j : Ex} {v : Value} (h : RepE W S j v) : ∃ A c, v = .agg #[.int .i64 j.op, .string j.text, .int .i64 j.num, .slice A j.parts.length c, .int .i64 j.pos] ∧ j.text.size ≤ 9223372036854775807 ∧ (j.parts.length ≤ c ∧ c ≤ 9223372036854775807) ∧
    (j.parts ≠ [] → ∃ b o, A = some ⟨b, o, none⟩ ∧ S b ∧ b < W.heap.size ∧ RepEs W S b o j.parts) := by
  cases j; rw [RepE] at h; exact h
theorem RepE.form {W : World} {S : Nat → Prop} {j : Ex} {v : Value} (h : RepE W S j v) : ∃ a0 a1 a2 A n c a4, v = .agg #[.int .i64 a0, .string a1, .int .i64 a2, .slice A n c, .int .i64 a4] := by
  obtain ⟨A, c, e, _⟩ := h.open
  exact ⟨_, _, _, _, _, _, _, e⟩
theorem RepEs.at {W : World} {S : Nat → Prop} {b : Nat} : ∀ {l : List Ex} {o : Nat}, RepEs W S b o l → ∀ i (hi : i < l.length), ∃ v, RepE W S l[i] v ∧ FiveE W b (o + i * 5) v
  | x :: r, o, h, 0, _ => by rw [RepEs] at h; rw [Nat.zero_mul]; exact h.1
  | x :: r, o, h, i + 1, hi => by
    rw [RepEs] at h
    have := h.2.at i (by simpa using hi)
    rw [show o + 5 + i * 5 = o + (i + 1) * 5 by omega] at this
    exact this
/-! ### Rows that grow -/
/-- The cells of expressions, one behind the other. -/
def FlatE (W : World) (S : Nat → Prop) : List Ex → List Value → Prop
  | [], xs => xs = []
  | x :: r, xs => ∃ a0 a1 a2 a3 a4 ys, xs = a0 :: a1 :: a2 :: a3 :: a4 :: ys ∧ RepE W S x (.agg #[a0, a1, a2, a3, a4]) ∧ FlatE W S r ys
theorem FlatE.keeps {S T : Nat → Prop} {W W' : World} (hk : Keeps S W W') (hT : ∀ b, S b → b < W.heap.size → T b) : ∀ {l : List Ex} {xs : List Value}, FlatE W S l xs → FlatE W' T l xs
  | [], xs, h => h
  | x :: r, xs, h => by
    obtain ⟨a0, a1, a2, a3, a4, ys, e, h1, h2⟩ := h
    exact ⟨a0, a1, a2, a3, a4, ys, e, RepE.keeps hk hT _ _ h1, FlatE.keeps hk hT h2⟩
theorem FlatE.snoc {S : Nat → Prop} {W : World} {x : Ex} {a0 a1 a2 a3 a4 : Value} (hx : RepE W S x (.agg #[a0, a1, a2, a3, a4])) : ∀ {l : List Ex} {xs : List Value}, FlatE W S l xs → FlatE W S (l ++ [x]) (xs ++ [a0, a1, a2, a3, a4])
  | [], xs, h => by
    obtain rfl : xs = [] := h
    exact ⟨a0, a1, a2, a3, a4, [], rfl, hx, rfl⟩
  | y :: r, xs, h => by
    obtain ⟨b0, b1, b2, b3, b4, ys, e, h1, h2⟩ := h
    exact ⟨b0, b1, b2, b3, b4, ys ++ [a0, a1, a2, a3, a4], by rw [e]; rfl, h1, FlatE.snoc hx h2⟩
theorem FlatE.length {S : Nat → Prop} {W : World} : ∀ {l : List Ex} {xs : List Value}, FlatE W S l xs → xs.length = l.length * 5
  | [], xs, h => by obtain rfl : xs = [] := h; rfl
  | x :: r, xs, h => by
    obtain ⟨a0, a1, a2, a3, a4, ys, e, h1, h2⟩ := h
    rw [e, List.length_cons, List.length_cons, List.length_cons, List.length_cons, List.length_cons, h2.length, List.length_cons]
    omega
theorem FlatE.cells {S T : Nat → Prop} {W : World} {b : Nat} (hT : ∀ b, S b → b < W.heap.size → T b) : ∀ {l : List Ex} {xs : List Value} {o : Nat}, FlatE W S l xs → (∀ j u, xs[j]? = some u → W.cell? ⟨b, o + j, none⟩ = some u) → RepEs W T b o l
  | [], xs, o, _, _ => by rw [RepEs]; trivial
  | x :: r, xs, o, h, hc => by
    obtain ⟨a0, a1, a2, a3, a4, ys, e, h1, h2⟩ := h
    subst e
    rw [RepEs]
    refine ⟨⟨_, RepE.keeps (Keeps.refl S W) hT _ _ h1, a0, a1, a2, a3, a4, rfl, hc 0 a0 rfl, hc 1 a1 rfl, hc 2 a2 rfl, hc 3 a3 rfl, hc 4 a4 rfl⟩, ?_⟩
    refine h2.cells hT fun j u hu => ?_
    have := hc (j + 5) u (by simpa using hu)
    rwa [show o + 5 + j = o + (j + 5) by omega]
/-- A row of expressions of our own: what a slice of it is. -/
theorem own_exprs {W : World} {S T : Nat → Prop} {base : Nat} {v : Value} {l : List Ex} {xs : List Value} (hown : W.ownsRow base 42 5 v l.length xs) (hf : FlatE W S l xs) (hT : ∀ b, S b → b < W.heap.size → T b) (hb : ∀ b, base ≤ b → T b) :
    ∃ A c, v = .slice A l.length c ∧ (l ≠ [] → ∃ b o, A = some ⟨b, o, none⟩ ∧ T b ∧ b < W.heap.size ∧ RepEs W T b o l) := by
  rcases hown.2 with ⟨rfl, h0⟩ | ⟨g, cap, cur, rfl, hg, hcell, hle, hm, _⟩
  · refine ⟨none, 0, by rw [h0], fun hne => ?_⟩
    exact absurd (List.eq_nil_of_length_eq_zero h0) hne
  · refine ⟨some ⟨g, 0, none⟩, cap, rfl, fun _ => ⟨g, 0, rfl, hb g hg, (hown.lt g rfl).2, hf.cells hT fun j u hu => ?_⟩⟩
    have := hown.cells (g := g) rfl j u hu
    rwa [Addr.add_mid] at this
theorem RepE.leaf (W : World) (S : Nat → Prop) (op n p : Int) (s : ByteArray) (hs : s.size ≤ 9223372036854775807) : RepE W S (.mk op s n [] p) (.agg #[.int .i64 op, .string s, .int .i64 n, .slice none 0 0, .int .i64 p]) := by
  rw [RepE]
  exact ⟨none, 0, rfl, hs, by simp, fun h => absurd rfl h⟩
theorem RepE.of_list {W : World} {S : Nat → Prop} {op p : Int} {l : List Ex} {b o c : Nat} (hl : l.length ≤ c ∧ c ≤ 9223372036854775807) (hS : S b) (hlt : b < W.heap.size) (h : RepEs W S b o l) : RepE W S (.mk op ⟨#[]⟩ 0 l p) (.agg #[.int .i64 op, .string ⟨#[]⟩, .int .i64 0, .slice (some ⟨b, o, none⟩) l.length c, .int .i64 p]) := by
  rw [RepE]
  exact ⟨_, c, rfl, by decide, hl, fun _ => ⟨b, o, rfl, hS, hlt, h⟩⟩
theorem RepE.two {W : World} {S : Nat → Prop} {x y : Ex} {g c : Nat} {op p : Int} {x0 x1 x2 x3 x4 y0 y1 y2 y3 y4 : Value} {t : TypeId} (hx : RepE W S x (.agg #[x0, x1, x2, x3, x4])) (hy : RepE W S y (.agg #[y0, y1, y2, y3, y4])) (hg : S g) (hb : Blk W g t [x0, x1, x2, x3, x4, y0, y1, y2, y3, y4]) (hc : 2 ≤ c ∧ c ≤ 9223372036854775807 := by decide) :
    RepE W S (.mk op ⟨#[]⟩ 0 [x, y] p) (.agg #[.int .i64 op, .string ⟨#[]⟩, .int .i64 0, .slice (some ⟨g, 0, none⟩) 2 c, .int .i64 p]) :=
  RepE.of_list (l := [x, y]) hc hg hb.lt (by
    rw [RepEs, RepEs, RepEs]
    exact ⟨⟨_, hx, x0, x1, x2, x3, x4, rfl, hb.cell 0, hb.cell 1, hb.cell 2, hb.cell 3, hb.cell 4⟩, ⟨_, hy, y0, y1, y2, y3, y4, rfl, hb.cell 5, hb.cell 6, hb.cell 7, hb.cell 8, hb.cell 9⟩, trivial⟩)
theorem RepE.one {W : World} {S : Nat → Prop} {x : Ex} {g c : Nat} {op p : Int} {x0 x1 x2 x3 x4 : Value} {t : TypeId} (hx : RepE W S x (.agg #[x0, x1, x2, x3, x4])) (hg : S g) (hb : Blk W g t [x0, x1, x2, x3, x4]) (hc : 1 ≤ c ∧ c ≤ 9223372036854775807 := by decide) :
    RepE W S (.mk op ⟨#[]⟩ 0 [x] p) (.agg #[.int .i64 op, .string ⟨#[]⟩, .int .i64 0, .slice (some ⟨g, 0, none⟩) 1 c, .int .i64 p]) :=
  RepE.of_list (l := [x]) hc hg hb.lt (by
    rw [RepEs, RepEs]
    exact ⟨⟨_, hx, x0, x1, x2, x3, x4, rfl, hb.cell 0, hb.cell 1, hb.cell 2, hb.cell 3, hb.cell 4⟩, trivial⟩)
/-- A slice of strings whose block is one of S. -/
def RepSt (W : World) (S : Nat → Prop) (k : List ByteArray) (v : Value) : Prop :=
  ∃ A c, v = .slice A k.length c ∧ k.length ≤ 9223372036854775807 ∧ (k ≠ [] → ∃ b o, A = some ⟨b, o, none⟩ ∧ S b ∧ b < W.heap.size ∧ ∀ i, i < k.length → ∃ t, k[i]? = some t ∧ t.size ≤ 9223372036854775807 ∧ W.cell? ⟨b, o + i, none⟩ = some (.string t))
theorem RepSt.keeps {S T : Nat → Prop} {W W' : World} {k : List ByteArray} {v : Value} (h : RepSt W S k v) (hk : Keeps S W W') (hT : ∀ b, S b → b < W.heap.size → T b) : RepSt W' T k v := by
  obtain ⟨A, c, e, hl, hc⟩ := h
  refine ⟨A, c, e, hl, fun hne => ?_⟩
  obtain ⟨b, o, e1, hS, hlt, hcs⟩ := hc hne
  refine ⟨b, o, e1, hT b hS hlt, Nat.lt_of_lt_of_le hlt hk.1, fun i hi => ?_⟩
  obtain ⟨t, h1, h2, h3⟩ := hcs i hi
  exact ⟨t, h1, h2, (hk.cell hS hlt _).trans h3⟩
theorem own_texts {W : World} {T : Nat → Prop} {base : Nat} {v : Value} {k : List ByteArray} (hown : W.ownsRow base 9 1 v k.length (k.map Value.string)) (hb : ∀ b, base ≤ b → T b) (hl : k.length ≤ 9223372036854775807) (hs : ∀ t ∈ k, t.size ≤ 9223372036854775807) : RepSt W T k v := by
  rcases hown.2 with ⟨rfl, h0⟩ | ⟨g, cap, cur, rfl, hg, hcell, hle, hm, _⟩
  · refine ⟨none, 0, by rw [h0], hl, fun hne => ?_⟩
    exact absurd (List.eq_nil_of_length_eq_zero h0) hne
  · refine ⟨some ⟨g, 0, none⟩, cap, rfl, hl, fun _ => ⟨g, 0, rfl, hb g hg, (hown.lt g rfl).2, fun i hi => ⟨k[i], List.getElem?_eq_getElem hi, hs _ (List.getElem_mem hi), ?_⟩⟩⟩
    have := hown.cells (g := g) rfl i (.string k[i]) (by rw [List.getElem?_map, List.getElem?_eq_getElem hi]; rfl)
    rwa [Addr.add_mid] at this
/-- A slice of expressions. -/
def RepL (W : World) (S : Nat → Prop) (l : List Ex) (v : Value) : Prop := ∃ A c, v = .slice A l.length c ∧ l.length ≤ 9223372036854775807 ∧ (l ≠ [] → ∃ b o, A = some ⟨b, o, none⟩ ∧ S b ∧ b < W.heap.size ∧ RepEs W S b o l)
theorem RepL.keeps {S T : Nat → Prop} {W W' : World} (hk : Keeps S W W') (hT : ∀ b, S b → b < W.heap.size → T b) {l : List Ex} {v : Value} (h : RepL W S l v) : RepL W' T l v := by
  obtain ⟨A, c, e, hl, hc⟩ := h
  refine ⟨A, c, e, hl, fun hne => ?_⟩
  obtain ⟨b, o, e1, hS, hlt, hcs⟩ := hc hne
  exact ⟨b, o, e1, hT b hS hlt, Nat.lt_of_lt_of_le hlt hk.1, repEs_keeps hk hT hS hlt l o hcs⟩
/-- A rule all of whose blocks are of S. -/
def RepR (W : World) (S : Nat → Prop) (x : RuleM) (v : Value) : Prop := ∃ vs vw, v = .agg #[.bool x.deny, vs, vw, .int .i64 x.pos] ∧ RepSt W S x.scopes vs ∧ RepL W S x.whens vw
theorem RepR.keeps {S T : Nat → Prop} {W W' : World} (hk : Keeps S W W') (hT : ∀ b, S b → b < W.heap.size → T b) {x : RuleM} {v : Value} (h : RepR W S x v) : RepR W' T x v := by
  obtain ⟨vs, vw, e, h1, h2⟩ := h
  exact ⟨vs, vw, e, h1.keeps hk hT, h2.keeps hk hT⟩
/-- The cells of rules, one behind the other. -/
def FlatR (W : World) (S : Nat → Prop) : List RuleM → List Value → Prop
  | [], xs => xs = []
  | x :: r, xs => ∃ a0 a1 a2 a3 ys, xs = a0 :: a1 :: a2 :: a3 :: ys ∧ RepR W S x (.agg #[a0, a1, a2, a3]) ∧ FlatR W S r ys
theorem FlatR.keeps {S T : Nat → Prop} {W W' : World} (hk : Keeps S W W') (hT : ∀ b, S b → b < W.heap.size → T b) : ∀ {l : List RuleM} {xs : List Value}, FlatR W S l xs → FlatR W' T l xs
  | [], xs, h => h
  | x :: r, xs, h => by
    obtain ⟨a0, a1, a2, a3, ys, e, h1, h2⟩ := h
    exact ⟨a0, a1, a2, a3, ys, e, h1.keeps hk hT, FlatR.keeps hk hT h2⟩
theorem FlatR.snoc {S : Nat → Prop} {W : World} {x : RuleM} {a0 a1 a2 a3 : Value} (hx : RepR W S x (.agg #[a0, a1, a2, a3])) : ∀ {l : List RuleM} {xs : List Value}, FlatR W S l xs → FlatR W S (l ++ [x]) (xs ++ [a0, a1, a2, a3])
  | [], xs, h => by
    obtain rfl : xs = [] := h
    exact ⟨a0, a1, a2, a3, [], rfl, hx, rfl⟩
  | y :: r, xs, h => by
    obtain ⟨b0, b1, b2, b3, ys, e, h1, h2⟩ := h
    exact ⟨b0, b1, b2, b3, ys ++ [a0, a1, a2, a3], by rw [e]; rfl, h1, FlatR.snoc hx h2⟩
/-- Rules one behind the other in a block. -/
def RepRs (W : World) (S : Nat → Prop) (b o : Nat) (l : List RuleM) : Prop := ∀ i (hi : i < l.length), ∃ a0 a1 a2 a3, RepR W S l[i] (.agg #[a0, a1, a2, a3]) ∧ W.cell? ⟨b, o + i * 4, none⟩ = some a0 ∧ W.cell? ⟨b, o + i * 4 + 1, none⟩ = some a1 ∧ W.cell? ⟨b, o + i * 4 + 2, none⟩ = some a2 ∧ W.cell? ⟨b, o + i * 4 + 3, none⟩ = some a3
/-- A policy. -/
def RepP (W : World) (S : Nat → Prop) (l : List RuleM) (v : Value) : Prop := ∃ A c, v = .slice A l.length c ∧ l.length ≤ 9223372036854775807 ∧ (l ≠ [] → ∃ b o, A = some ⟨b, o, none⟩ ∧ S b ∧ b < W.heap.size ∧ RepRs W S b o l)
theorem RepP.keeps {S T : Nat → Prop} {W W' : World} (hk : Keeps S W W') (hT : ∀ b, S b → b < W.heap.size → T b) {l : List RuleM} {v : Value} (h : RepP W S l v) : RepP W' T l v := by
  obtain ⟨A, c, e, hl, hc⟩ := h
  refine ⟨A, c, e, hl, fun hne => ?_⟩
  obtain ⟨b, o, e1, hS, hlt, hcs⟩ := hc hne
  refine ⟨b, o, e1, hT b hS hlt, Nat.lt_of_lt_of_le hlt hk.1, fun i hi => ?_⟩
  obtain ⟨a0, a1, a2, a3, h0, h1, h2, h3, h4⟩ := hcs i hi
  exact ⟨a0, a1, a2, a3, h0.keeps hk hT, (hk.cell hS hlt _).trans h1, (hk.cell hS hlt _).trans h2, (hk.cell hS hlt _).trans h3, (hk.cell hS hlt _).trans h4⟩
theorem FlatR.cells {S T : Nat → Prop} {W : World} {b : Nat} (hT : ∀ b, S b → b < W.heap.size → T b) : ∀ {l : List RuleM} {xs : List Value} {o : Nat}, FlatR W S l xs → (∀ j u, xs[j]? = some u → W.cell? ⟨b, o + j, none⟩ = some u) → RepRs W T b o l
  | [], xs, o, _, _ => fun i hi => absurd hi (Nat.not_lt_zero _)
  | x :: r, xs, o, h, hc => by
    obtain ⟨a0, a1, a2, a3, ys, e, h1, h2⟩ := h
    subst e
    intro i hi
    cases i with
    | zero =>
      rw [Nat.zero_mul]
      exact ⟨a0, a1, a2, a3, h1.keeps (Keeps.refl S W) hT, hc 0 a0 rfl, hc 1 a1 rfl, hc 2 a2 rfl, hc 3 a3 rfl⟩
    | succ i =>
      have hr : RepRs W T b (o + 4) r := h2.cells hT fun j u hu => by
        have := hc (j + 4) u (by simpa using hu)
        rwa [show o + 4 + j = o + (j + 4) by omega]
      obtain ⟨b0, b1, b2, b3, k0, k1, k2, k3, k4⟩ := hr i (by simpa using hi)
      rw [show o + 4 + i * 4 = o + (i + 1) * 4 by omega] at k1 k2 k3 k4
      exact ⟨b0, b1, b2, b3, k0, k1, k2, k3, k4⟩
theorem own_rules {W : World} {S T : Nat → Prop} {base : Nat} {v : Value} {l : List RuleM} {xs : List Value} (hown : W.ownsRow base 45 4 v l.length xs) (hf : FlatR W S l xs) (hT : ∀ b, S b → b < W.heap.size → T b) (hb : ∀ b, base ≤ b → T b) (hl : l.length ≤ 9223372036854775807) : RepP W T l v := by
  rcases hown.2 with ⟨rfl, h0⟩ | ⟨g, cap, cur, rfl, hg, hcell, hle, hm, _⟩
  · refine ⟨none, 0, by rw [h0], hl, fun hne => ?_⟩
    exact absurd (List.eq_nil_of_length_eq_zero h0) hne
  · refine ⟨some ⟨g, 0, none⟩, cap, rfl, hl, fun _ => ⟨g, 0, rfl, hb g hg, (hown.lt g rfl).2, hf.cells hT fun j u hu => ?_⟩⟩
    have := hown.cells (g := g) rfl j u hu
    rwa [Addr.add_mid] at this
end Go.Proofs.YtcjfealalokjaaaGreatDoor
