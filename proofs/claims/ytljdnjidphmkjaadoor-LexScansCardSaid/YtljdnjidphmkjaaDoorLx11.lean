/- LxTok, LxToks, LxScan, LxAlive, LxSpell, LxJoin, LxLawS: merged. -/
import Derived.Maps.OwnSet
import Derived.Deep.AppendLies
import Derived.Maps.RangeWalk
import Derived.Lib.SplitLaws
import Derived.OwnWalk
import Derived.Deep.CutBlock
import Derived.Deep.CutRange
import Derived.Test.YtljdnjidphmkjaaDoorLx08
import Derived.Test.YtljdnjidphmkjaaDoorLx10
set_option linter.all false
namespace Go.Proofs.YtljdnjidphmkjaaDoor
open Go Go.RowKit
theorem sizeInt : (Tryd.prog.info? 3).map (·.size) = some 1 := by kernel_rfl
theorem sizeTok : (Tryd.prog.info? 34).map (·.size) = some 4 := by kernel_rfl
theorem zeroTok : (Tryd.prog.info? 34).map (·.zero) = some (some (.agg #[.int .i64 0, .string ⟨#[]⟩, .int .i64 0, .int .i64 0])) := by kernel_rfl
theorem sizeStr : (Tryd.prog.info? 9).map (·.size) = some 1 := by kernel_rfl
theorem sizeI64 : (Tryd.prog.info? 2).map (·.size) = some 1 := by kernel_rfl
theorem tok_cells {w : World} {g : Nat} {a b c d : Value} (h : Blk w g 34 [a, b, c, d]) : w.cell? ⟨g, 0, none⟩ = some a ∧ w.cell? ⟨g, 1, none⟩ = some b ∧ w.cell? ⟨g, 2, none⟩ = some c ∧ w.cell? ⟨g, 3, none⟩ = some d := ⟨h.cell 0, h.cell 1, h.cell 2, h.cell 3⟩
theorem grown_above {w A A' : World} {row : Option Nat} {g : Nat} (h : w.grownBy A row) (k : A.grownBy A' (some g)) (hg : w.heap.size ≤ g) : w.grownBy A' row :=
  ⟨k.os.trans h.os, k.tape.trans h.tape, k.output.trans h.output, Nat.le_trans h.size k.size, fun i hi hr => (k.block i (Nat.lt_of_lt_of_le hi h.size) (fun e => by injection e with e; omega)).trans (h.block i hi hr)⟩
theorem AtE.grownG {pos n : Int} {w W W' : World} {v : Value} {g : Nat} (h : AtE pos n w v W) (k : W.grownBy W' (some g)) (hg : g < w.heap.size) : AtE pos n w v W' := by
  obtain ⟨b, e, h0, h1, h2⟩ := h
  have hlt : b < W.heap.size := lt_of_cell h0
  have hb := k.block b hlt (fun e => by injection e with e; omega)
  exact ⟨b, e, (World.cell?_of_block (a := ⟨b, 0, none⟩) hb).trans h0, (World.cell?_of_block (a := ⟨b, 0 + 1, none⟩) hb).trans h1, h2⟩
/-- The token ahead, and its kind. -/
theorem kind_cases (l : List Int) : (l = [] ∧ kindL l = 5 ∧ tokL l = ⟨0, 0, 5, [], 0, 0⟩) ∨
    (32 < wordN l ∧ kindL l = 1 ∧ tokL l = ⟨110, 0, 1, [], 0, 0⟩) ∨ (¬ 32 < wordN l ∧ kindL l = 1 ∧ tokL l = ⟨0, 0, 1, l.take (wordN l), 0, wordN l⟩) ∨
    (∃ r, l = 34 :: r ∧ kindL l = 2 ∧ (quotN r).2.2 = true ∧ tokL l = ⟨0, 0, 2, (quotN r).1, 0, (quotN r).2.1 + 1⟩) ∨
    (∃ r, l = 34 :: r ∧ kindL l = 2 ∧ (quotN r).2.2 = false ∧ tokL l = ⟨110, (quotN r).2.1 + 1, 2, [], 0, 0⟩) ∨
    (leadL l ≠ 0 ∧ kindL l = 3 ∧ fitL (l.take (leadL l)) (-9007199254740991) 9007199254740991 = false ∧ tokL l = ⟨41, 0, 3, [], 0, 0⟩) ∨
    (leadL l ≠ 0 ∧ kindL l = 3 ∧ fitL (l.take (leadL l)) (-9007199254740991) 9007199254740991 = true ∧ tokL l = ⟨0, 0, 3, [], numL (l.take (leadL l)), leadL l⟩) ∨
    (0 < signN l ∧ kindL l = 4 ∧ tokL l = ⟨0, 0, 4, l.take (signN l), 0, signN l⟩) ∨
    (kindL l = 0 ∧ tokL l = ⟨110, 0, 0, [], 0, 0⟩) := by
  cases l with
  | nil => exact .inl ⟨rfl, rfl, rfl⟩
  | cons c r =>
    have hk : kindL (c :: r) = if 0 < wordN (c :: r) then 1 else if c = 34 then 2 else if 0 < leadL (c :: r) then 3 else if 0 < signN (c :: r) then 4 else 0 := by
      unfold kindL; rw [if_neg (by simp), List.getD_cons_zero]
    rw [hk, tokL_cons]
    cases hs : smallC c with
    | true =>
      have hw : 0 < wordN (c :: r) := by rw [wordN_go hs]; omega
      rw [if_pos hw, if_pos rfl]
      by_cases h : 32 < wordN (c :: r)
      · rw [if_pos h]; exact .inr (.inl ⟨h, rfl, rfl⟩)
      · rw [if_neg h]; exact .inr (.inr (.inl ⟨h, rfl, rfl⟩))
    | false =>
      rw [if_neg (show ¬ 0 < wordN (c :: r) by rw [wordN_stop hs]; omega), if_neg (show ¬ (false = true) by decide)]
      by_cases h34 : c = 34
      · subst h34
        rw [if_pos rfl, if_pos rfl]
        cases hq : (quotN r).2.2 with
        | true => rw [if_pos rfl]; exact .inr (.inr (.inr (.inl ⟨r, rfl, rfl, hq, rfl⟩)))
        | false => rw [if_neg (by decide)]; exact .inr (.inr (.inr (.inr (.inl ⟨r, rfl, rfl, hq, rfl⟩))))
      · rw [if_neg h34, if_neg h34]
        by_cases hl : 0 < leadL (c :: r)
        · rw [if_pos hl, if_pos hl]
          cases hf : fitL ((c :: r).take (leadL (c :: r))) (-9007199254740991) 9007199254740991 with
          | true => rw [if_pos rfl]; exact .inr (.inr (.inr (.inr (.inr (.inr (.inl ⟨by omega, rfl, rfl, rfl⟩))))))
          | false => rw [if_neg (by decide)]; exact .inr (.inr (.inr (.inr (.inr (.inl ⟨by omega, rfl, rfl, rfl⟩)))))
        · rw [if_neg hl, if_neg hl]
          by_cases hg : 0 < signN (c :: r)
          · rw [if_pos hg, if_pos hg]; exact .inr (.inr (.inr (.inr (.inr (.inr (.inr (.inl ⟨hg, rfl, rfl⟩)))))))
          · rw [if_neg hg, if_neg hg]; exact .inr (.inr (.inr (.inr (.inr (.inr (.inr (.inr ⟨rfl, rfl⟩)))))))
theorem quote_at {s : ByteArray} {P : Nat} {c : Int} {r : List Int} (h : (strL s).drop P = c :: r) : r = (strL s).drop (P + 1) ∧ P < s.size := by
  refine ⟨(ahN_cons h).2, ?_⟩
  rcases Nat.lt_or_ge P s.size with h' | h'
  · exact h'
  · rw [List.drop_eq_nil_of_le (by rw [length_strL]; exact h')] at h; cases h
/-- What token tells. -/
def TokTells (w : World) (b : Nat) (s : ByteArray) (P : Nat) (t : TokR) (e : Ending) (w' : World) : Prop :=
  (t.err ≠ 0 ∧ ∃ k2 s2 n2 p2 v, e = .returned (.tuple #[.agg #[.int .i64 k2, .string s2, .int .i64 n2, .int .i64 p2], v]) ∧ AtE ((P + t.off : Nat) : Int) t.err w v w' ∧ w.grownBy w' (some b)) ∨
  (t.err = 0 ∧ e = .returned (.tuple #[.agg #[.int .i64 t.kind, .string (toS t.text), .int .i64 t.num, .int .i64 (P : Int)], .nilIface]) ∧ MovedS w w' b s (P + t.size))
set_option maxRecDepth 100000 in
set_option maxHeartbeats 8000000 in
theorem token_any (b : Nat) (s : ByteArray) (P : Nat) (w : World) (hM : Marks w) (h : ScAt w b s P) (hp : P ≤ s.size) (hs : s.size ≤ 1000000) :
    Calls Tryd.prog 20 #[.pointer (some ⟨b, 0, none⟩)] w (TokTells w b s P (tokL ((strL s).drop P))) := by
  have HM := Lib.hid hM
  have HSC := Lib.hid h
  have hbl := h.lt
  have HRE := Lib.hid (fun (W : World) (hW : ScAt W b s P) => rest_any b s P W hW hp (by omega))
  have HKI := Lib.hid (fun W : World => kindOf_any (aheadS s P) W (by rw [aheadS_size]; omega))
  rw [aheadS_L] at HKI
  obtain ⟨κ, hκ⟩ : ∃ κ, κ = kindL ((strL s).drop P) := ⟨_, rfl⟩
  rw [← hκ] at HKI
  have HK := Lib.hid hκ
  clear h hM hκ
  go_enter Tryd.func20, Tryd.ntmps20
  go_wp2_with (first | (refine wpList_alloc_blk rfl (some 2) rfl _ rfl _ zeroTok ?_; intro g w1 hg1 hb1 hgr1; have HG1 := Lib.hid hg1; have HB1 := Lib.hid hb1; have HW1 := Lib.hid (show Below w.heap.size w w1 from (Below.refl _ w).grown hgr1 (Nat.le_refl _) (by simp)); clear hgr1 hb1))
  have HS1 := Lib.hid (show ScAt w1 b s P from Blk.below HSC.out HW1.out hbl)
  have hc1 : w1.cell? ⟨b, 1, none⟩ = some (.int .i64 (P : Int)) := (ScAt.cells HS1.out).2.1
  refine wp_region_held_drew (S := fun X => X.cell? ⟨b, 1, none⟩ = some (.int .i64 (P : Int))) (by kernel_rfl) hc1 (fun hHeld => ?_)
  refine rgT 0 ?_
  try simp only [rgS]
  refine rgT 3 ?_
  try simp only [rgS]
  refine rgT 4 ?_
  try simp only [rgS]
  refine rgT 5 ?_
  try simp only [rgS]
  refine rgT 6 ?_
  try simp only [rgS]
  refine rgO 1 (fun K hK => ?_)
  go_simp
  (with_reducible refine (HRE.out _ HS1.out.drew).mono ?_)
  rintro e w2 ⟨rfl, q2, rfl⟩
  refine hK.out _ _ hc1 (fun hH2 => ?_)
  clear hK K hHeld
  try simp only [rgS]
  refine rgO 2 (fun K hK => ?_)
  go_simp
  (with_reducible refine (HKI.out _).mono ?_)
  rintro e w3 ⟨rfl, hb3⟩
  have HB3 := Lib.hid (show Below w1.heap.size w1 w3 from (below_drewN (Below.refl _ w1) _).trans hb3)
  have hc3 : w3.cell? ⟨b, 1, none⟩ = some (.int .i64 (P : Int)) := (HB3.out.cell (p := ⟨b, 1, none⟩) HS1.out.lt).trans hc1
  refine hK.out _ _ hc3 (fun hH3 => ?_)
  have HT3 := Lib.hid (show Blk w3 g 34 _ from Blk.below HB1.out HB3.out HB1.out.lt)
  clear hK K hH2 hb3
  try simp only [rgS]
  refine rgT 7 ?_
  try simp only [rgS]
  refine rgO 8 (fun K hK => ?_)
  rw [if_pos (by kernel_rfl)]
  refine wp_store_one 3 (.tmp 11) (.tmp 6) rfl g 0 (.int .i64 κ) rfl rfl rfl _ _ HT3.out (by simp) sizeInt ?_
  intro w4 hk4 hg4
  have hgb : g ≠ b := by have := HG1.out; omega
  have hb3l : b < w3.heap.size := Nat.lt_of_lt_of_le HS1.out.lt HB3.out.size
  have hc4 : w4.cell? ⟨b, 1, none⟩ = some (.int .i64 (P : Int)) := (World.cell?_of_block (a := ⟨b, 1, none⟩) (hg4.block b hb3l (fun e => hgb (Option.some.inj e).symm))).trans hc3
  refine hK.out _ _ hc4 (fun hH4 => ?_)
  clear hK K hH3
  have HK4 := Lib.hid hk4
  have HG4 := Lib.hid hg4
  clear hk4 hg4
  try simp only [rgS]
  refine rgT 9 ?_
  try simp only [rgS]
  refine rgO 10 (fun K hK => ?_)
  rw [if_pos (by kernel_rfl)]
  refine wp_store_one 3 (.tmp 12) (.tmp 10) rfl g 3 (.int .i64 (P : Int)) rfl rfl rfl _ _ HK4.out (by simp) sizeInt ?_
  intro w5 hk5 hg5
  have hb4l : b < w4.heap.size := Nat.lt_of_lt_of_le hb3l HG4.out.size
  have hc5 : w5.cell? ⟨b, 1, none⟩ = some (.int .i64 (P : Int)) := (World.cell?_of_block (a := ⟨b, 1, none⟩) (hg5.block b hb4l (fun e => hgb (Option.some.inj e).symm))).trans hc4
  refine hK.out _ _ hc5 (fun hH5 => ?_)
  clear hK K hH4
  have HT := Lib.hid (show Blk w5 g 34 [.int .i64 κ, .string ⟨#[]⟩, .int .i64 0, .int .i64 (P : Int)] from hk5)
  have HB5 := Lib.hid (show Below w.heap.size w w5 from ((HW1.out.trans (HB3.out.mono HW1.out.size)).grown HG4.out (Nat.le_trans HW1.out.size HB3.out.size) (by intro k hk; injection hk with hk; have := HG1.out; omega)).grown hg5 (Nat.le_trans (Nat.le_trans HW1.out.size HB3.out.size) HG4.out.size) (by intro k hk; injection hk with hk; have := HG1.out; omega))
  have HS5 := Lib.hid (show ScAt w5 b s P from Blk.below HSC.out HB5.out hbl)
  have HM5 := Lib.hid (HM.out.below HB5.out)
  clear hk5 hg5 hc1 hc3 hc4 hc5 HK4 HG4 HT3 HB3 HB1 HS1 HKI HRE
  try simp only [rgS]
  refine wpAnyH_done (by kernel_rfl) ?_ _
  rcases kind_cases ((strL s).drop P) with ⟨_, hk', htok⟩ | ⟨hw, hk', htok⟩ | ⟨hw, hk', htok⟩ | ⟨r, hr, hk', hq, htok⟩ | ⟨r, hr, hk', hq, htok⟩ | ⟨hl, hk', hq, htok⟩ | ⟨hl, hk', hq, htok⟩ | ⟨hl, hk', htok⟩ | ⟨hk', htok⟩
  all_goals have hk := HK.out.trans hk'
  all_goals clear hk'
  · -- the end
    subst hk
    have z0 := HT.out.cell 0
    have z1 := HT.out.cell 1
    have z2 := HT.out.cell 2
    have z3 := HT.out.cell 3
    simp only [List.getElem?_cons_zero, List.getElem?_cons_succ] at z0 z1 z2 z3
    go_wp2_with (first | (refine wpList_store_blk rfl none rfl _ (.tmp 2) (.tmp 52) rfl g 0 [.int .i64 5, .string ⟨#[]⟩, .int .i64 0, .int .i64 (P : Int)] rfl rfl _ _ HT.out (by simp) sizeTok (by intro v hv; simp at hv; rcases hv with rfl | rfl | rfl | rfl <;> rfl) ?_; intro w9 hb9 hg9; rw [splice_all _ _ rfl] at hb9; have HT9 := Lib.hid hb9; have HG9 := Lib.hid hg9; clear hb9 hg9; try go_frame))
    (try simp only [Exit.inBlock, Exit.then])
    have r0 := HT9.out.cell 0
    have r1 := HT9.out.cell 1
    have r2 := HT9.out.cell 2
    have r3 := HT9.out.cell 3
    refine bodyPost_ret (v := .tuple #[.agg #[.int .i64 5, .string ⟨#[]⟩, .int .i64 0, .int .i64 (P : Int)], .nilIface]) ?_ rfl ?_
    · rw [results_cell_tmp rfl]; go_simp <;> rfl
    · rw [htok]
      refine .inr ⟨rfl, rfl, ?_, ?_⟩
      · exact grown_above (grownBy_of_below HB5.out _) HG9.out HG1.out
      · exact Blk.grown (show ScAt w5 b s (P + 0) from HS5.out) HG9.out (fun e => hgb (Option.some.inj e).symm)
  · -- a word too long
    subst hk
    have HC := Lib.hid (word_long b s P w5 HS5.out hp (by omega) hw)
    have z0 := HT.out.cell 0
    have z1 := HT.out.cell 1
    have z2 := HT.out.cell 2
    have z3 := HT.out.cell 3
    simp only [List.getElem?_cons_zero, List.getElem?_cons_succ] at z0 z1 z2 z3
    go_wp2_with fail
    refine HC.out.mono ?_
    rintro e w6 ⟨v, rfl, hv, hb6⟩
    have HG6 := Lib.hid (grownBy_of_below hb6 (some b))
    have HT6 := Lib.hid (HT.out.below hb6 HT.out.lt)
    have HV := Lib.hid hv
    clear hb6 hv
    obtain ⟨z0, z1, z2, z3⟩ := tok_cells HT6.out
    go_wp2_with (first | (refine wpList_store_cell rfl none rfl _ (.tmp 25) (.tmp 23) rfl g 1 (.string ⟨#[]⟩) rfl rfl rfl _ _ HT6.out (by simp) sizeStr ?_; intro w7 hb7 hg7; have HT7 := Lib.hid (show Blk w7 g 34 [.int .i64 1, .string ⟨#[]⟩, .int .i64 0, .int .i64 (P : Int)] from hb7); have HG7 := Lib.hid hg7; obtain ⟨z0, z1, z2, z3⟩ := tok_cells HT7.out; clear hb7 hg7; try go_frame) | (refine wpList_store_blk rfl none rfl _ (.tmp 2) (.tmp 52) rfl g 0 [.int .i64 1, .string ⟨#[]⟩, .int .i64 0, .int .i64 (P : Int)] rfl rfl _ _ HT7.out (by simp) sizeTok (by intro v hv; simp at hv; rcases hv with rfl | rfl | rfl | rfl <;> rfl) ?_; intro w9 hb9 hg9; rw [splice_all _ _ rfl] at hb9; have HT9 := Lib.hid hb9; have HG9 := Lib.hid hg9; clear hb9 hg9; try go_frame))
    (try simp only [Exit.inBlock, Exit.then])
    have r0 := HT9.out.cell 0
    have r1 := HT9.out.cell 1
    have r2 := HT9.out.cell 2
    have r3 := HT9.out.cell 3
    refine bodyPost_ret (v := .tuple #[.agg #[.int .i64 1, .string ⟨#[]⟩, .int .i64 0, .int .i64 (P : Int)], v]) ?_ rfl ?_
    · rw [results_cell_tmp rfl]; go_simp <;> rfl
    · rw [htok]
      refine .inl ⟨(by intro h; cases h), _, _, _, _, _, rfl, ?_, ?_⟩
      · exact AtE.low (AtE.grownG (AtE.grownG (HV.out) HG7.out HT.out.lt) HG9.out HT.out.lt) HB5.out.size
      · exact grown_above (grown_above ((grownBy_of_below HB5.out (some b)).trans HG6.out) HG7.out HG1.out) HG9.out HG1.out
  · -- a word
    subst hk
    have HC := Lib.hid (word_ok b s P w5 HS5.out hp (by omega) hw)
    have z0 := HT.out.cell 0
    have z1 := HT.out.cell 1
    have z2 := HT.out.cell 2
    have z3 := HT.out.cell 3
    simp only [List.getElem?_cons_zero, List.getElem?_cons_succ] at z0 z1 z2 z3
    go_wp2_with fail
    refine HC.out.mono ?_
    rintro e w6 ⟨rfl, hg6, hs6⟩
    have HG6 := Lib.hid hg6
    have HT6 := Lib.hid (HT.out.grown hg6 (fun e => hgb (Option.some.inj e)))
    have HS6 := Lib.hid hs6
    clear hg6 hs6
    obtain ⟨z0, z1, z2, z3⟩ := tok_cells HT6.out
    go_wp2_with (first | (refine wpList_store_cell rfl none rfl _ (.tmp 25) (.tmp 23) rfl g 1 (.string (toS (((strL s).drop P).take (wordN ((strL s).drop P))))) rfl rfl rfl _ _ HT6.out (by simp) sizeStr ?_; intro w7 hb7 hg7; have HT7 := Lib.hid (show Blk w7 g 34 [.int .i64 1, .string (toS (((strL s).drop P).take (wordN ((strL s).drop P)))), .int .i64 0, .int .i64 (P : Int)] from hb7); have HG7 := Lib.hid hg7; obtain ⟨z0, z1, z2, z3⟩ := tok_cells HT7.out; clear hb7 hg7; try go_frame) | (refine wpList_store_blk rfl none rfl _ (.tmp 2) (.tmp 52) rfl g 0 [.int .i64 1, .string (toS (((strL s).drop P).take (wordN ((strL s).drop P)))), .int .i64 0, .int .i64 (P : Int)] rfl rfl _ _ HT7.out (by simp) sizeTok (by intro v hv; simp at hv; rcases hv with rfl | rfl | rfl | rfl <;> rfl) ?_; intro w9 hb9 hg9; rw [splice_all _ _ rfl] at hb9; have HT9 := Lib.hid hb9; have HG9 := Lib.hid hg9; clear hb9 hg9; try go_frame))
    (try simp only [Exit.inBlock, Exit.then])
    have r0 := HT9.out.cell 0
    have r1 := HT9.out.cell 1
    have r2 := HT9.out.cell 2
    have r3 := HT9.out.cell 3
    refine bodyPost_ret (v := .tuple #[.agg #[.int .i64 1, .string (toS (((strL s).drop P).take (wordN ((strL s).drop P)))), .int .i64 0, .int .i64 (P : Int)], .nilIface]) ?_ rfl ?_
    · rw [results_cell_tmp rfl]; go_simp <;> rfl
    · rw [htok]
      refine .inr ⟨rfl, rfl, ?_, ?_⟩
      · exact grown_above (grown_above ((grownBy_of_below HB5.out (some b)).trans HG6.out) HG7.out HG1.out) HG9.out HG1.out
      · exact Blk.grown (Blk.grown (HS6.out) HG7.out (fun e => hgb (Option.some.inj e).symm)) HG9.out (fun e => hgb (Option.some.inj e).symm)
  · -- a text
    subst hk
    obtain ⟨hr2, hpl⟩ := quote_at hr
    rw [hr2] at hq htok
    clear hr hr2
    have HC := Lib.hid (quoted_any b s P w5 HM5.out HS5.out hpl hs)
    unfold QuTells at HC
    rw [hq] at HC
    have z0 := HT.out.cell 0
    have z1 := HT.out.cell 1
    have z2 := HT.out.cell 2
    have z3 := HT.out.cell 3
    simp only [List.getElem?_cons_zero, List.getElem?_cons_succ] at z0 z1 z2 z3
    go_wp2_with fail
    refine HC.out.mono ?_
    rintro e w6 (⟨_, rfl, hg6, hs6⟩ | ⟨h, _⟩)
    case inr => cases h
    have HG6 := Lib.hid hg6
    have HT6 := Lib.hid (HT.out.grown hg6 (fun e => hgb (Option.some.inj e)))
    have HS6 := Lib.hid hs6
    clear hg6 hs6
    obtain ⟨z0, z1, z2, z3⟩ := tok_cells HT6.out
    go_wp2_with (first | (refine wpList_store_cell rfl none rfl _ (.tmp 33) (.tmp 31) rfl g 1 (.string (toS (quotN ((strL s).drop (P + 1))).1)) rfl rfl rfl _ _ HT6.out (by simp) sizeStr ?_; intro w7 hb7 hg7; have HT7 := Lib.hid (show Blk w7 g 34 [.int .i64 2, .string (toS (quotN ((strL s).drop (P + 1))).1), .int .i64 0, .int .i64 (P : Int)] from hb7); have HG7 := Lib.hid hg7; obtain ⟨z0, z1, z2, z3⟩ := tok_cells HT7.out; clear hb7 hg7; try go_frame) | (refine wpList_store_blk rfl none rfl _ (.tmp 2) (.tmp 52) rfl g 0 [.int .i64 2, .string (toS (quotN ((strL s).drop (P + 1))).1), .int .i64 0, .int .i64 (P : Int)] rfl rfl _ _ HT7.out (by simp) sizeTok (by intro v hv; simp at hv; rcases hv with rfl | rfl | rfl | rfl <;> rfl) ?_; intro w9 hb9 hg9; rw [splice_all _ _ rfl] at hb9; have HT9 := Lib.hid hb9; have HG9 := Lib.hid hg9; clear hb9 hg9; try go_frame))
    (try simp only [Exit.inBlock, Exit.then])
    have r0 := HT9.out.cell 0
    have r1 := HT9.out.cell 1
    have r2 := HT9.out.cell 2
    have r3 := HT9.out.cell 3
    refine bodyPost_ret (v := .tuple #[.agg #[.int .i64 2, .string (toS (quotN ((strL s).drop (P + 1))).1), .int .i64 0, .int .i64 (P : Int)], .nilIface]) ?_ rfl ?_
    · rw [results_cell_tmp rfl]; go_simp <;> rfl
    · rw [htok]
      refine .inr ⟨rfl, rfl, ?_, ?_⟩
      · exact grown_above (grown_above ((grownBy_of_below HB5.out (some b)).trans HG6.out) HG7.out HG1.out) HG9.out HG1.out
      · rw [show P + ((quotN ((strL s).drop (P + 1))).2.1 + 1) = P + 1 + (quotN ((strL s).drop (P + 1))).2.1 by omega]
        exact Blk.grown (Blk.grown (HS6.out) HG7.out (fun e => hgb (Option.some.inj e).symm)) HG9.out (fun e => hgb (Option.some.inj e).symm)
  · -- a text that fails
    subst hk
    obtain ⟨hr2, hpl⟩ := quote_at hr
    rw [hr2] at hq htok
    clear hr hr2
    have HC := Lib.hid (quoted_any b s P w5 HM5.out HS5.out hpl hs)
    unfold QuTells at HC
    rw [hq] at HC
    have z0 := HT.out.cell 0
    have z1 := HT.out.cell 1
    have z2 := HT.out.cell 2
    have z3 := HT.out.cell 3
    simp only [List.getElem?_cons_zero, List.getElem?_cons_succ] at z0 z1 z2 z3
    go_wp2_with fail
    refine HC.out.mono ?_
    rintro e w6 (⟨h, _⟩ | ⟨_, v, rfl, hv, hg6⟩)
    case inl => cases h
    have HG6 := Lib.hid hg6
    have HT6 := Lib.hid (HT.out.grown hg6 (fun e => hgb (Option.some.inj e)))
    have HV := Lib.hid hv
    clear hg6 hv
    obtain ⟨z0, z1, z2, z3⟩ := tok_cells HT6.out
    go_wp2_with (first | (refine wpList_store_cell rfl none rfl _ (.tmp 33) (.tmp 31) rfl g 1 (.string ⟨#[]⟩) rfl rfl rfl _ _ HT6.out (by simp) sizeStr ?_; intro w7 hb7 hg7; have HT7 := Lib.hid (show Blk w7 g 34 [.int .i64 2, .string ⟨#[]⟩, .int .i64 0, .int .i64 (P : Int)] from hb7); have HG7 := Lib.hid hg7; obtain ⟨z0, z1, z2, z3⟩ := tok_cells HT7.out; clear hb7 hg7; try go_frame) | (refine wpList_store_blk rfl none rfl _ (.tmp 2) (.tmp 52) rfl g 0 [.int .i64 2, .string ⟨#[]⟩, .int .i64 0, .int .i64 (P : Int)] rfl rfl _ _ HT7.out (by simp) sizeTok (by intro v hv; simp at hv; rcases hv with rfl | rfl | rfl | rfl <;> rfl) ?_; intro w9 hb9 hg9; rw [splice_all _ _ rfl] at hb9; have HT9 := Lib.hid hb9; have HG9 := Lib.hid hg9; clear hb9 hg9; try go_frame))
    (try simp only [Exit.inBlock, Exit.then])
    have r0 := HT9.out.cell 0
    have r1 := HT9.out.cell 1
    have r2 := HT9.out.cell 2
    have r3 := HT9.out.cell 3
    refine bodyPost_ret (v := .tuple #[.agg #[.int .i64 2, .string ⟨#[]⟩, .int .i64 0, .int .i64 (P : Int)], v]) ?_ rfl ?_
    · rw [results_cell_tmp rfl]; go_simp <;> rfl
    · rw [htok]
      refine .inl ⟨(by intro h; cases h), _, _, _, _, _, rfl, ?_, ?_⟩
      · rw [show P + ((quotN ((strL s).drop (P + 1))).2.1 + 1) = P + 1 + (quotN ((strL s).drop (P + 1))).2.1 by omega]
        exact AtE.low (AtE.grownG (AtE.grownG (HV.out) HG7.out HT.out.lt) HG9.out HT.out.lt) HB5.out.size
      · exact grown_above (grown_above ((grownBy_of_below HB5.out (some b)).trans HG6.out) HG7.out HG1.out) HG9.out HG1.out
  · -- a number beyond
    subst hk
    have HC := Lib.hid (numberS_any b s P w5 HS5.out hp hs hl)
    unfold NumTellsS at HC
    rw [hq] at HC
    have z0 := HT.out.cell 0
    have z1 := HT.out.cell 1
    have z2 := HT.out.cell 2
    have z3 := HT.out.cell 3
    simp only [List.getElem?_cons_zero, List.getElem?_cons_succ] at z0 z1 z2 z3
    go_wp2_with fail
    refine HC.out.mono ?_
    rintro e w6 (⟨_, v, rfl, hv, hb6⟩ | ⟨h, _⟩)
    case inr => cases h
    have HG6 := Lib.hid (grownBy_of_below hb6 (some b))
    have HT6 := Lib.hid (HT.out.below hb6 HT.out.lt)
    have HV := Lib.hid hv
    clear hb6 hv
    obtain ⟨z0, z1, z2, z3⟩ := tok_cells HT6.out
    go_wp2_with (first | (refine wpList_store_cell rfl none rfl _ (.tmp 41) (.tmp 39) rfl g 2 (.int .i64 0) rfl rfl rfl _ _ HT6.out (by simp) sizeI64 ?_; intro w7 hb7 hg7; have HT7 := Lib.hid (show Blk w7 g 34 [.int .i64 3, .string ⟨#[]⟩, .int .i64 0, .int .i64 (P : Int)] from hb7); have HG7 := Lib.hid hg7; obtain ⟨z0, z1, z2, z3⟩ := tok_cells HT7.out; clear hb7 hg7; try go_frame) | (refine wpList_store_blk rfl none rfl _ (.tmp 2) (.tmp 52) rfl g 0 [.int .i64 3, .string ⟨#[]⟩, .int .i64 0, .int .i64 (P : Int)] rfl rfl _ _ HT7.out (by simp) sizeTok (by intro v hv; simp at hv; rcases hv with rfl | rfl | rfl | rfl <;> rfl) ?_; intro w9 hb9 hg9; rw [splice_all _ _ rfl] at hb9; have HT9 := Lib.hid hb9; have HG9 := Lib.hid hg9; clear hb9 hg9; try go_frame))
    (try simp only [Exit.inBlock, Exit.then])
    have r0 := HT9.out.cell 0
    have r1 := HT9.out.cell 1
    have r2 := HT9.out.cell 2
    have r3 := HT9.out.cell 3
    refine bodyPost_ret (v := .tuple #[.agg #[.int .i64 3, .string ⟨#[]⟩, .int .i64 0, .int .i64 (P : Int)], v]) ?_ rfl ?_
    · rw [results_cell_tmp rfl]; go_simp <;> rfl
    · rw [htok]
      refine .inl ⟨(by intro h; cases h), _, _, _, _, _, rfl, ?_, ?_⟩
      · exact AtE.low (AtE.grownG (AtE.grownG (HV.out) HG7.out HT.out.lt) HG9.out HT.out.lt) HB5.out.size
      · exact grown_above (grown_above ((grownBy_of_below HB5.out (some b)).trans HG6.out) HG7.out HG1.out) HG9.out HG1.out
  · -- a number
    subst hk
    have HC := Lib.hid (numberS_any b s P w5 HS5.out hp hs hl)
    unfold NumTellsS at HC
    rw [hq] at HC
    have z0 := HT.out.cell 0
    have z1 := HT.out.cell 1
    have z2 := HT.out.cell 2
    have z3 := HT.out.cell 3
    simp only [List.getElem?_cons_zero, List.getElem?_cons_succ] at z0 z1 z2 z3
    go_wp2_with fail
    refine HC.out.mono ?_
    rintro e w6 (⟨h, _⟩ | ⟨_, rfl, hg6, hs6⟩)
    case inl => cases h
    have HG6 := Lib.hid hg6
    have HT6 := Lib.hid (HT.out.grown hg6 (fun e => hgb (Option.some.inj e)))
    have HS6 := Lib.hid hs6
    clear hg6 hs6
    obtain ⟨z0, z1, z2, z3⟩ := tok_cells HT6.out
    go_wp2_with (first | (refine wpList_store_cell rfl none rfl _ (.tmp 41) (.tmp 39) rfl g 2 (.int .i64 (numL (((strL s).drop P).take (leadL ((strL s).drop P))))) rfl rfl rfl _ _ HT6.out (by simp) sizeI64 ?_; intro w7 hb7 hg7; have HT7 := Lib.hid (show Blk w7 g 34 [.int .i64 3, .string ⟨#[]⟩, .int .i64 (numL (((strL s).drop P).take (leadL ((strL s).drop P)))), .int .i64 (P : Int)] from hb7); have HG7 := Lib.hid hg7; obtain ⟨z0, z1, z2, z3⟩ := tok_cells HT7.out; clear hb7 hg7; try go_frame) | (refine wpList_store_blk rfl none rfl _ (.tmp 2) (.tmp 52) rfl g 0 [.int .i64 3, .string ⟨#[]⟩, .int .i64 (numL (((strL s).drop P).take (leadL ((strL s).drop P)))), .int .i64 (P : Int)] rfl rfl _ _ HT7.out (by simp) sizeTok (by intro v hv; simp at hv; rcases hv with rfl | rfl | rfl | rfl <;> rfl) ?_; intro w9 hb9 hg9; rw [splice_all _ _ rfl] at hb9; have HT9 := Lib.hid hb9; have HG9 := Lib.hid hg9; clear hb9 hg9; try go_frame))
    (try simp only [Exit.inBlock, Exit.then])
    have r0 := HT9.out.cell 0
    have r1 := HT9.out.cell 1
    have r2 := HT9.out.cell 2
    have r3 := HT9.out.cell 3
    refine bodyPost_ret (v := .tuple #[.agg #[.int .i64 3, .string ⟨#[]⟩, .int .i64 (numL (((strL s).drop P).take (leadL ((strL s).drop P)))), .int .i64 (P : Int)], .nilIface]) ?_ rfl ?_
    · rw [results_cell_tmp rfl]; go_simp <;> rfl
    · rw [htok]
      refine .inr ⟨rfl, rfl, ?_, ?_⟩
      · exact grown_above (grown_above ((grownBy_of_below HB5.out (some b)).trans HG6.out) HG7.out HG1.out) HG9.out HG1.out
      · exact Blk.grown (Blk.grown (HS6.out) HG7.out (fun e => hgb (Option.some.inj e).symm)) HG9.out (fun e => hgb (Option.some.inj e).symm)
  · -- a sign
    subst hk
    have HR := Lib.hid (rest_any b s P w5 HS5.out hp (by omega))
    have HL := Lib.hid (fun W : World => leadSign_any (aheadS s P) W)
    rw [aheadS_L] at HL
    have hsl := (signN_le ((strL s).drop P)).1
    rw [List.length_drop, length_strL] at hsl
    have HC := Lib.hid (fun (q : Nat) => take_any b s P (signN ((strL s).drop P)) (w5.drewN q) (Blk.drewN HS5.out q) (by omega) (by omega))
    have z0 := HT.out.cell 0
    have z1 := HT.out.cell 1
    have z2 := HT.out.cell 2
    have z3 := HT.out.cell 3
    simp only [List.getElem?_cons_zero, List.getElem?_cons_succ] at z0 z1 z2 z3
    go_wp2_with fail
    refine HR.out.mono ?_
    rintro e w6 ⟨rfl, q6, rfl⟩
    go_wp2_with fail
    refine (HL.out _).mono ?_
    rintro e w6 ⟨rfl, rfl⟩
    go_wp2_with fail
    refine (HC.out q6).mono ?_
    rintro e w6 ⟨rfl, hg6, hs6⟩
    have hg6 := (grown_drewS (w := w5) q6 (some b)).trans hg6
    have HG6 := Lib.hid hg6
    have HT6 := Lib.hid (HT.out.grown hg6 (fun e => hgb (Option.some.inj e)))
    have HS6 := Lib.hid hs6
    clear hg6 hs6
    obtain ⟨z0, z1, z2, z3⟩ := tok_cells HT6.out
    go_wp2_with (first | (refine wpList_store_cell rfl none rfl _ (.tmp 49) (.tmp 48) rfl g 1 (.string (toS (((strL s).drop P).take (signN ((strL s).drop P))))) rfl rfl rfl _ _ HT6.out (by simp) sizeStr ?_; intro w7 hb7 hg7; have HT7 := Lib.hid (show Blk w7 g 34 [.int .i64 4, .string (toS (((strL s).drop P).take (signN ((strL s).drop P)))), .int .i64 0, .int .i64 (P : Int)] from hb7); have HG7 := Lib.hid hg7; obtain ⟨z0, z1, z2, z3⟩ := tok_cells HT7.out; clear hb7 hg7; try go_frame) | (refine wpList_store_blk rfl none rfl _ (.tmp 2) (.tmp 52) rfl g 0 [.int .i64 4, .string (toS (((strL s).drop P).take (signN ((strL s).drop P)))), .int .i64 0, .int .i64 (P : Int)] rfl rfl _ _ HT7.out (by simp) sizeTok (by intro v hv; simp at hv; rcases hv with rfl | rfl | rfl | rfl <;> rfl) ?_; intro w9 hb9 hg9; rw [splice_all _ _ rfl] at hb9; have HT9 := Lib.hid hb9; have HG9 := Lib.hid hg9; clear hb9 hg9; try go_frame))
    (try simp only [Exit.inBlock, Exit.then])
    have r0 := HT9.out.cell 0
    have r1 := HT9.out.cell 1
    have r2 := HT9.out.cell 2
    have r3 := HT9.out.cell 3
    refine bodyPost_ret (v := .tuple #[.agg #[.int .i64 4, .string (toS (((strL s).drop P).take (signN ((strL s).drop P)))), .int .i64 0, .int .i64 (P : Int)], .nilIface]) ?_ rfl ?_
    · rw [results_cell_tmp rfl]; go_simp <;> rfl
    · rw [htok]
      refine .inr ⟨rfl, rfl, ?_, ?_⟩
      · exact grown_above (grown_above ((grownBy_of_below HB5.out (some b)).trans HG6.out) HG7.out HG1.out) HG9.out HG1.out
      · exact Blk.grown (Blk.grown (HS6.out) HG7.out (fun e => hgb (Option.some.inj e).symm)) HG9.out (fun e => hgb (Option.some.inj e).symm)
  · -- none
    subst hk
    have HC := Lib.hid (fault_any b s P 110 w5 HS5.out)
    have z0 := HT.out.cell 0
    have z1 := HT.out.cell 1
    have z2 := HT.out.cell 2
    have z3 := HT.out.cell 3
    simp only [List.getElem?_cons_zero, List.getElem?_cons_succ] at z0 z1 z2 z3
    go_wp2_with fail
    refine HC.out.mono ?_
    rintro e w6 ⟨⟨v, rfl, hv⟩, hb6⟩
    have HG6 := Lib.hid (grownBy_of_below hb6 (some b))
    have HT6 := Lib.hid (HT.out.below hb6 HT.out.lt)
    have HV := Lib.hid hv
    clear hb6 hv
    obtain ⟨z0, z1, z2, z3⟩ := tok_cells HT6.out
    go_wp2_with (first | (refine wpList_store_blk rfl none rfl _ (.tmp 2) (.tmp 52) rfl g 0 [.int .i64 0, .string ⟨#[]⟩, .int .i64 0, .int .i64 (P : Int)] rfl rfl _ _ HT6.out (by simp) sizeTok (by intro v hv; simp at hv; rcases hv with rfl | rfl | rfl | rfl <;> rfl) ?_; intro w9 hb9 hg9; rw [splice_all _ _ rfl] at hb9; have HT9 := Lib.hid hb9; have HG9 := Lib.hid hg9; clear hb9 hg9; try go_frame))
    (try simp only [Exit.inBlock, Exit.then])
    have r0 := HT9.out.cell 0
    have r1 := HT9.out.cell 1
    have r2 := HT9.out.cell 2
    have r3 := HT9.out.cell 3
    refine bodyPost_ret (v := .tuple #[.agg #[.int .i64 0, .string ⟨#[]⟩, .int .i64 0, .int .i64 (P : Int)], v]) ?_ rfl ?_
    · rw [results_cell_tmp rfl]; go_simp <;> rfl
    · rw [htok]
      refine .inl ⟨(by intro h; cases h), _, _, _, _, _, rfl, ?_, ?_⟩
      · exact AtE.low (AtE.grownG (HV.out) HG9.out HT.out.lt) HB5.out.size
      · exact grown_above ((grownBy_of_below HB5.out (some b)).trans HG6.out) HG9.out HG1.out
end Go.Proofs.YtljdnjidphmkjaaDoor
namespace Go.Proofs.YtljdnjidphmkjaaDoor
open Go Go.RowKit
theorem infoTok : (Tryd.prog.info? 34).map (fun i => (i.zero, i.size, i.bytes)) = some (some (.agg #[.int .i64 0, .string ByteArray.empty, .int .i64 0, .int .i64 0]), 4, 40) := by kernel_rfl
def flatT (ts : List TokM) : List Value := ts.flatMap cellsT
theorem flatT_snoc (ts : List TokM) (t : TokM) : flatT (ts ++ [t]) = flatT ts ++ cellsT t := by simp [flatT]
theorem flatT_at : ∀ (ts : List TokM) (i : Nat) (t : TokM), ts[i]? = some t → (flatT ts)[i * 4]? = some (.int .i64 t.kind) ∧ (flatT ts)[i * 4 + 1]? = some (.string t.text) ∧ (flatT ts)[i * 4 + 2]? = some (.int .i64 t.num) ∧ (flatT ts)[i * 4 + 3]? = some (.int .i64 t.pos)
  | [], i, t, h => by simp at h
  | t0 :: r, 0, t, h => by
    have h : t0 = t := by simpa using h
    subst h
    exact ⟨rfl, rfl, rfl, rfl⟩
  | t0 :: r, i + 1, t, h => by
    have h : r[i]? = some t := by simpa using h
    obtain ⟨h1, h2, h3, h4⟩ := flatT_at r i t h
    have e : ∀ k, (flatT (t0 :: r))[k + 4]? = (flatT r)[k]? := fun k => rfl
    rw [show (i + 1) * 4 = i * 4 + 4 by omega, show i * 4 + 4 + 1 = i * 4 + 1 + 4 by omega, show i * 4 + 4 + 2 = i * 4 + 2 + 4 by omega, show i * 4 + 4 + 3 = i * 4 + 3 + 4 by omega, e, e, e, e]
    exact ⟨h1, h2, h3, h4⟩
/-- Tokens one behind the other. -/
def ToksAt (w : World) (A : Option Addr) (ts : List TokM) : Prop := ts ≠ [] → ∃ b o, A = some ⟨b, o, none⟩ ∧ b < w.heap.size ∧ ∀ i t, ts[i]? = some t →
  w.cell? ⟨b, o + i * 4, none⟩ = some (.int .i64 t.kind) ∧ w.cell? ⟨b, o + i * 4 + 1, none⟩ = some (.string t.text) ∧ w.cell? ⟨b, o + i * 4 + 2, none⟩ = some (.int .i64 t.num) ∧ w.cell? ⟨b, o + i * 4 + 3, none⟩ = some (.int .i64 t.pos)
theorem ToksAt.nil (w : World) (A : Option Addr) : ToksAt w A [] := fun h => absurd rfl h
theorem ToksAt.below {w w' : World} {A : Option Addr} {ts : List TokM} (h : ToksAt w A ts) (hb : Below w.heap.size w w') : ToksAt w' A ts := fun hp => by
  obtain ⟨b, o, e, hlt, hc⟩ := h hp
  refine ⟨b, o, e, Nat.lt_of_lt_of_le hlt hb.size, fun i t hi => ?_⟩
  obtain ⟨h1, h2, h3, h4⟩ := hc i t hi
  exact ⟨(hb.cell (p := ⟨b, o + i * 4, none⟩) hlt).trans h1, (hb.cell (p := ⟨b, o + i * 4 + 1, none⟩) hlt).trans h2, (hb.cell (p := ⟨b, o + i * 4 + 2, none⟩) hlt).trans h3, (hb.cell (p := ⟨b, o + i * 4 + 3, none⟩) hlt).trans h4⟩
theorem ToksAt.at {w : World} {A : Option Addr} {ts : List TokM} (h : ToksAt w A ts) {i : Nat} (hi : i < ts.length) : ∃ b o, A = some ⟨b, o, none⟩ ∧ b < w.heap.size ∧ w.cell? ⟨b, o + i * 4, none⟩ = some (.int .i64 ts[i].kind) ∧ w.cell? ⟨b, o + i * 4 + 1, none⟩ = some (.string ts[i].text) ∧ w.cell? ⟨b, o + i * 4 + 2, none⟩ = some (.int .i64 ts[i].num) ∧ w.cell? ⟨b, o + i * 4 + 3, none⟩ = some (.int .i64 ts[i].pos) := by
  obtain ⟨b, o, e, hlt, hc⟩ := h (by intro h0; rw [h0] at hi; exact absurd hi (by simp))
  exact ⟨b, o, e, hlt, hc i _ (List.getElem?_eq_getElem hi)⟩
theorem own_toks {w : World} {base : Nat} {v : Value} {ts : List TokM} {n : Nat} (h : w.ownsRow base 34 4 v n (flatT ts)) (hn : ts.length = n) : ∃ A c, v = .slice A n c ∧ n ≤ c ∧ ToksAt w A ts := by
  rcases h.2 with ⟨rfl, h0⟩ | ⟨g, cap, cur, rfl, hg, hcell, hle, hm, _⟩
  · subst h0
    exact ⟨none, 0, rfl, Nat.le_refl _, fun hp => absurd (List.eq_nil_of_length_eq_zero hn) hp⟩
  · refine ⟨some ⟨g, 0, none⟩, cap, rfl, hle, fun _ => ⟨g, 0, rfl, (h.lt g rfl).2, fun i t hi => ?_⟩⟩
    obtain ⟨h1, h2, h3, h4⟩ := flatT_at ts i t hi
    have k1 := h.cells (g := g) rfl _ _ h1
    have k2 := h.cells (g := g) rfl _ _ h2
    have k3 := h.cells (g := g) rfl _ _ h3
    have k4 := h.cells (g := g) rfl _ _ h4
    rw [Addr.add_mid] at k1 k2 k3 k4
    exact ⟨by simpa using k1, by simpa [Nat.add_assoc] using k2, by simpa [Nat.add_assoc] using k3, by simpa [Nat.add_assoc] using k4⟩
/-- What an error tells: none; a number alone; a number and a place. -/
def ErrTells (n pos : Int) (w : World) (v : Value) (w' : World) : Prop :=
  (n = 0 ∧ pos = -1 ∧ v = .nilIface) ∨ (n ≠ 0 ∧ pos = -1 ∧ v = .iface 43 (.int .i64 n)) ∨ (n ≠ 0 ∧ 0 ≤ pos ∧ AtE pos n w v w')
/-- What Scan hands back. -/
def ScanTells (r : List TokM × Int × Int) (w : World) (e : Ending) (w' : World) : Prop :=
  ∃ A c v, e = .returned (.tuple #[.slice A r.1.length c, v]) ∧ r.1.length ≤ c ∧ ToksAt w' A r.1 ∧ ErrTells r.2.1 r.2.2 w v w' ∧ Below w.heap.size w w'
/-! ### Rounds -/
theorem gap_end {l : List Int} : l.drop (gapM false l) = [] ↔ l.length ≤ gapM false l := List.drop_eq_nil_iff
theorem tok_kind {l : List Int} (h : (tokL l).err = 0) : (tokL l).kind = 5 ↔ l = [] := by
  rcases kind_cases l with ⟨e, _, ht⟩ | ⟨hw, _, ht⟩ | ⟨hw, hk, ht⟩ | ⟨r, e, _, _, ht⟩ | ⟨r, e, _, _, ht⟩ | ⟨hl, hk, _, ht⟩ | ⟨hl, hk, _, ht⟩ | ⟨hl, hk, ht⟩ | ⟨hk, ht⟩
  · rw [ht]; exact ⟨fun _ => e, fun _ => rfl⟩
  · rw [ht] at h; cases h
  · rw [ht]; exact ⟨(fun h => by cases h), fun e => by rw [e] at hk; cases hk⟩
  · rw [ht]; exact ⟨(fun h => by cases h), fun e' => by rw [e'] at e; cases e⟩
  · rw [ht] at h; cases h
  · rw [ht] at h; cases h
  · rw [ht]; exact ⟨(fun h => by cases h), fun e => by rw [e] at hl; exact absurd rfl hl⟩
  · rw [ht]; exact ⟨(fun h => by cases h), fun e => by rw [e] at hl; exact absurd hl (by decide)⟩
  · rw [ht] at h; cases h
theorem scanF_err {f : Nat} {l : List Int} {p : Nat} {acc : List TokM} (h : (tokL (l.drop (gapM false l))).err ≠ 0) : scanF (f + 1) l p acc = ([], (tokL (l.drop (gapM false l))).err, ((p + gapM false l + (tokL (l.drop (gapM false l))).off : Nat) : Int)) := by
  rw [scanF, if_pos h]
theorem scanF_end {f : Nat} {l : List Int} {p : Nat} {acc : List TokM} (h : l.drop (gapM false l) = []) : scanF (f + 1) l p acc = (acc ++ [endT (p + gapM false l)], 0, -1) := by
  rw [scanF, h, if_neg (by simp [tokL]), if_pos (gap_end.1 h)]
theorem scanF_many {f : Nat} {l : List Int} {p : Nat} {acc : List TokM} (h : (tokL (l.drop (gapM false l))).err = 0) (h2 : l.drop (gapM false l) ≠ []) (h3 : acc.length = 512) : scanF (f + 1) l p acc = ([], 53, ((p + gapM false l : Nat) : Int)) := by
  rw [scanF, if_neg (by rw [h]; simp), if_neg (fun hq => h2 (gap_end.2 hq)), if_pos h3]
theorem scanF_go {f : Nat} {l : List Int} {p : Nat} {acc : List TokM} (h : (tokL (l.drop (gapM false l))).err = 0) (h2 : l.drop (gapM false l) ≠ []) (h3 : acc.length ≠ 512) :
    scanF (f + 1) l p acc = scanF f (l.drop (gapM false l + (tokL (l.drop (gapM false l))).size)) (p + (gapM false l + (tokL (l.drop (gapM false l))).size)) (acc ++ [madeT (tokL (l.drop (gapM false l))) (p + gapM false l)]) := by
  rw [scanF, if_neg (by rw [h]; simp), if_neg (fun hq => h2 (gap_end.2 hq)), if_neg h3]
theorem tok_size {l : List Int} (h : (tokL l).err = 0) (h2 : l ≠ []) : 1 ≤ (tokL l).size ∧ (tokL l).size ≤ l.length := by
  cases l with
  | nil => exact absurd rfl h2
  | cons c r => exact tokL_size h
end Go.Proofs.YtljdnjidphmkjaaDoor
namespace Go.Proofs.YtljdnjidphmkjaaDoor
open Go Go.RowKit
/-- What an owned row grows into lies above. -/
theorem own_geB {w : World} {base e size n B : Nat} {v : Value} {xs : List Value} (h : w.ownsRow base e size v n xs) (hB : B ≤ base) : ∀ k, v.ownBlock = some k → B ≤ k := fun k hk => Nat.le_trans hB (own_ge h k hk)
set_option maxRecDepth 100000 in
set_option maxHeartbeats 8000000 in
theorem scan_short (s : ByteArray) (w : World) (hm : Marks w) (hM : MaxL w) (h : ¬ 2048 < s.size) :
    Calls Tryd.prog 8 #[.string s] w (ScanTells (scanL (strL s)) w) := by
  obtain ⟨R, hR⟩ : ∃ R, R = scanL (strL s) := ⟨_, rfl⟩
  have HR0 : Hid (R = scanF (s.size + 1) (strL s) 0 []) := Lib.hid (by rw [hR, scanL, if_neg (by rw [length_strL]; exact h), length_strL])
  rw [← hR]
  have hf : ¬ (2048 : Int) < (s.size : Int) := by omega
  have HMM := Lib.hid (And.intro hm hM)
  have hs2 : s.size ≤ 2048 := by omega
  obtain ⟨i0, hi0, hz0, hz1, hz2⟩ := info_parts infoTok
  clear hm hM h hR
  go_enter Tryd.func8, Tryd.ntmps8
  go_wp2_with fail
  go_loopw [4] (fun lv wr => ∃ (p n f : Nat) (acc : List TokM), acc.length = n ∧ n ≤ 512 ∧ p ≤ s.size ∧ Hid (R = scanF f ((strL s).drop p) p acc ∧ ((strL s).drop p).length < f) ∧ ScAt wr w.heap.size s p ∧ wr.ownsRow (w.heap.size + 1) 34 4 lv n (flatT acc) ∧ Below w.heap.size w wr) (fun _ wr => s.size - posS wr w.heap.size)
  case atStart =>
    refine ⟨0, 0, s.size + 1, [], rfl, by omega, by omega, Lib.hid ⟨by rw [List.drop_zero]; exact HR0.out, by rw [List.drop_zero, length_strL]; omega⟩, ?_, World.ownsRow_nil _ _ _ _, ?_⟩
    · exact heap_alloc_new w _
    · exact belowAlloc _ _
  case round =>
    obtain ⟨p, n, f, acc, hn, hn5, hp, HRUN, hsc, hown, hbel⟩ := hrel
    obtain ⟨A, c, rfl, hnc, htoks⟩ := own_toks hown hn
    have HSC := Lib.hid hsc
    have HOW := Lib.hid hown
    have HBE := Lib.hid hbel
    have HN := Lib.hid hn
    have hpos : posS wr w.heap.size = p := ScAt.posS hsc
    have hmr : MaxL wr := HMM.out.2.below hbel
    have HGA := Lib.hid (gap_any w.heap.size s p wr hmr hsc hp (by omega))
    have hgl := gapM_le false ((strL s).drop p)
    rw [List.length_drop, length_strL] at hgl
    obtain ⟨f', hf'⟩ : ∃ f', f = f' + 1 := ⟨f - 1, by have := HRUN.out.2; omega⟩
    rw [hf'] at HRUN
    have HLF := Lib.hid HRUN.out.2
    have HRN := Lib.hid HRUN.out.1
    obtain ⟨T, hT⟩ : ∃ T, T = tokL (((strL s).drop p).drop (gapM false ((strL s).drop p))) := ⟨_, rfl⟩
    have HTE := Lib.hid (fun (h : T.err ≠ 0) => HRN.out.trans (scanF_err (by rw [← hT]; exact h)))
    have HTN := Lib.hid (fun (h : ((strL s).drop p).drop (gapM false ((strL s).drop p)) = []) => HRN.out.trans (scanF_end h))
    have HTM := Lib.hid (fun (h : T.err = 0) h2 h3 => HRN.out.trans (scanF_many (by rw [← hT]; exact h) h2 h3))
    have HTG := Lib.hid (fun (h : T.err = 0) h2 h3 => HRN.out.trans (scanF_go (by rw [← hT]; exact h) h2 h3))
    have HTK := Lib.hid (fun (h : T.err = 0) => (hT ▸ tok_kind (by rw [← hT]; exact h) : T.kind = 5 ↔ _))
    have HTS := Lib.hid (fun (h : T.err = 0) h2 => (hT ▸ tok_size (by rw [← hT]; exact h) h2 : 1 ≤ T.size ∧ T.size ≤ _))
    have HTZ := Lib.hid (fun (h : ((strL s).drop p).drop (gapM false ((strL s).drop p)) = []) => show T.text = [] ∧ T.num = 0 by rw [hT, h]; exact ⟨rfl, rfl⟩)
    rw [← hT] at HTE HTG
    have HTO := Lib.hid (fun (W : World) (hW : Marks W) (hS : ScAt W w.heap.size s (p + gapM false ((strL s).drop p))) => token_any w.heap.size s (p + gapM false ((strL s).drop p)) W hW hS (by omega) (by omega))
    rw [← List.drop_drop, ← hT] at HTO
    obtain ⟨g, hg⟩ : ∃ g, g = gapM false ((strL s).drop p) := ⟨_, rfl⟩
    rw [← hg] at HGA hgl HTE HTN HTM HTG HTK HTS HTO HTZ
    clear hsc hown hbel hn htoks hT hg HRUN hf' HRN
    go_wp2_with fail
    refine HGA.out.mono ?_
    rintro e w1 ⟨rfl, hg1, hs1⟩
    have HS1 := Lib.hid hs1
    have HB1 := Lib.hid (HBE.out.grown hg1 HBE.out.size (by intro k hk; injection hk with hk; omega))
    have HOW1 := Lib.hid (HOW.out.kept hg1 (.inr (fun e => by have := (HOW.out.lt _ e).1; omega)))
    clear hg1 hs1
    go_wp2_with fail
    refine (HTO.out w1 (HMM.out.1.below HB1.out) HS1.out).mono ?_
    rintro e w2 (⟨he, k2, s2, n2, p2, v, rfl, hv, hg2⟩ | ⟨he, rfl, hg2, hs2'⟩)
    · have HB2 := Lib.hid (HB1.out.grown hg2 HB1.out.size (by intro k hk; injection hk with hk; omega))
      have HV := Lib.hid (AtE.low (w := w) hv HB1.out.size)
      obtain ⟨ab, rfl, _, _, _⟩ := hv
      have HR := Lib.hid (HTE.out he)
      have HE := Lib.hid he
      clear hg2 he HTO HTE HTN HTM HTG HTK HTS
      have HB24 := Lib.hid (belowAlloc w2 (.cells #[.int .i64 k2, .string s2, .int .i64 n2, .int .i64 p2] 34))
      go_wp2_with fail
      go_ret2
      rw [HR.out]
      exact ⟨none, 0, _, rfl, Nat.le_refl _, ToksAt.nil _ _, .inr (.inr ⟨HE.out, by show (0 : Int) ≤ ((p + g + T.off : Nat) : Int); omega, AtE.below HV.out HB24.out⟩), HB2.out.trans (HB24.out.mono HB2.out.size)⟩
    · have HB2 := Lib.hid (HB1.out.grown hg2 HB1.out.size (by intro k hk; injection hk with hk; omega))
      have HOW2 := Lib.hid (HOW1.out.kept hg2 (.inr (fun e => by have := (HOW1.out.lt _ e).1; omega)))
      have HS2 := Lib.hid hs2'
      have HK5 := Lib.hid (HTK.out he)
      have HTS2 := Lib.hid (HTS.out he)
      have HTM2 := Lib.hid (HTM.out he)
      have HTG2 := Lib.hid (HTG.out he)
      have HSZ2 : Hid (w.heap.size + 1 ≤ w2.heap.size) := Lib.hid (by have := HS2.out.lt; omega)
      have HZ2 := Lib.hid (HTZ.out)
      obtain ⟨K, hK⟩ : ∃ K, K = T.kind := ⟨_, rfl⟩
      obtain ⟨X, hX⟩ : ∃ X, X = toS T.text := ⟨_, rfl⟩
      obtain ⟨N, hN⟩ : ∃ N, N = T.num := ⟨_, rfl⟩
      obtain ⟨Q, hQ⟩ : ∃ Q : Int, Q = ((p + g : Nat) : Int) := ⟨_, rfl⟩
      rw [← hK, ← hX, ← hN, ← hQ]
      rw [← hK] at HK5
      have HMD : Hid (madeT T (p + g) = ⟨K, X, N, Q⟩) := Lib.hid (by rw [hK, hX, hN, hQ]; rfl)
      have HQ := Lib.hid hQ
      have HXN := Lib.hid (And.intro hX hN)
      clear hg2 hs2' he HTO HTE HTM HTG HTK HTS HTZ hK hX hN hQ
      by_cases h5 : K = 5
      · have hnil := HK5.out.1 h5
        have HR := Lib.hid (HTN.out hnil)
        have e5 : (K == 5) = true := by rw [h5]; rfl
        have HCE : Hid (cellsT (endT (p + g)) = [.int .i64 K, .string X, .int .i64 N, .int .i64 Q]) := Lib.hid (by
          obtain ⟨z1, z2⟩ := HZ2.out hnil
          rw [HXN.out.1, HXN.out.2, z1, z2, HQ.out, h5]; rfl)
        clear HTN HTM2 HTG2 HTS2 hnil h5
        go_wp2_with (at_builtin; refine wpList_append_own _ rfl _ _ 23 rfl (w.heap.size + 1) 34 i0 (.agg #[.int .i64 0, .string ByteArray.empty, .int .i64 0, .int .i64 0]) 4 40 Tryd.underlying23 hi0 hz0 hz1 hz2 rfl (by decide) _ n _ rfl ((HOW2.out.alloc _).alloc _) ⟨w2.heap.size + 1, 0, none⟩ 1 1 [.int .i64 K, .string X, .int .i64 N, .int .i64 Q] rfl rfl ?c1 ?c2 ?c3 ?c4 ?c5 ?_)
        case c1 =>
          intro i u hi
          match i, hi with
          | 0, hi => simp at hi; subst hi; simp [Addr.add]
          | 1, hi => simp at hi; subst hi; simp [Addr.add]
          | 2, hi => simp at hi; subst hi; simp [Addr.add]
          | 3, hi => simp at hi; subst hi; simp [Addr.add]
        case c2 => intro u hu; simp at hu; rcases hu with rfl | rfl | rfl | rfl <;> rfl
        case c3 => unfold maxLen; omega
        case c4 => omega
        case c5 => have := HSZ2.out; simp; omega
        intro v' w5 hown' hgr5 _
        have HO5 := Lib.hid hown'
        have HB25 := Lib.hid (show Below w.heap.size w w5 from ((HB2.out.alloc HB2.out.size _).alloc (by have := HB2.out.size; simp; omega) _).grown hgr5 (by have := HB2.out.size; simp; omega) (own_geB HOW2.out (by omega)))
        clear hown' hgr5
        obtain ⟨A', c', rfl, hnc', htk⟩ := own_toks (ts := acc ++ [endT (p + g)]) (n := n + 1) (by rw [flatT_snoc, HCE.out]; exact HO5.out) (by rw [List.length_append, HN.out]; rfl)
        have HTK' := Lib.hid htk
        clear htk
        go_wp2_with fail
        go_ret2
        rw [HR.out]
        have hl : (acc ++ [endT (p + g)]).length = n + 1 := by rw [List.length_append, HN.out]; rfl
        exact ⟨A', c', .nilIface, by rw [hl]; rfl, by rw [hl]; exact hnc', HTK'.out, .inl ⟨rfl, rfl, rfl⟩, HB25.out⟩
      · have e5 : (K == 5) = false := by rw [beq_eq_false_iff_ne]; exact h5
        have hnil := fun h => h5 (HK5.out.2 h)
        obtain ⟨t1, t2⟩ := HTS2.out hnil
        rw [List.length_drop, List.length_drop, length_strL] at t2
        by_cases h512 : n = 512
        · have HR := Lib.hid (HTM2.out hnil (by rw [HN.out]; exact h512))
          have e6 : ((n : Int) == 512) = true := by rw [h512]; rfl
          have HAT := Lib.hid (fun W : World => atN_any Q 53 W)
          clear HTN HTM2 HTG2 HTS2 hnil h5 h512
          go_wp2_with fail
          refine (HAT.out _).mono ?_
          rintro e w5 ⟨⟨v, rfl, hv⟩, hb5⟩
          have HV := Lib.hid (AtE.low (w := w) hv (by have := HB2.out.size; simp; omega))
          have HB5 := Lib.hid ((HB2.out.alloc HB2.out.size (.cells #[.int .i64 K, .string X, .int .i64 N, .int .i64 Q] 34)).trans (hb5.mono (by have := HB2.out.size; simp; omega)))
          clear hv hb5
          go_wp2_with fail
          go_ret2
          rw [HR.out]
          exact ⟨none, 0, _, rfl, Nat.le_refl _, ToksAt.nil _ _, .inr (.inr ⟨by show (53 : Int) ≠ 0; decide, by show (0 : Int) ≤ ((p + g : Nat) : Int); omega, by rw [← HQ.out]; exact HV.out⟩), HB5.out⟩
        · have HR := Lib.hid (HTG2.out hnil (by rw [HN.out]; exact h512))
          have e6 : ((n : Int) == 512) = false := by rw [beq_eq_false_iff_ne]; omega
          have hn511 : n ≤ 511 := by omega
          have HT12 := Lib.hid (And.intro t1 t2)
          clear HTN HTM2 HTG2 HTS2 hnil h5 h512
          go_wp2_with (at_builtin; refine wpList_append_own _ rfl _ _ 23 rfl (w.heap.size + 1) 34 i0 (.agg #[.int .i64 0, .string ByteArray.empty, .int .i64 0, .int .i64 0]) 4 40 Tryd.underlying23 hi0 hz0 hz1 hz2 rfl (by decide) _ n _ rfl ((HOW2.out.alloc _).alloc _) ⟨w2.heap.size + 1, 0, none⟩ 1 1 [.int .i64 K, .string X, .int .i64 N, .int .i64 Q] rfl rfl ?c1 ?c2 ?c3 ?c4 ?c5 ?_)
          case c1 =>
            intro i u hi
            match i, hi with
            | 0, hi => simp at hi; subst hi; simp [Addr.add]
            | 1, hi => simp at hi; subst hi; simp [Addr.add]
            | 2, hi => simp at hi; subst hi; simp [Addr.add]
            | 3, hi => simp at hi; subst hi; simp [Addr.add]
          case c2 => intro u hu; simp at hu; rcases hu with rfl | rfl | rfl | rfl <;> rfl
          case c3 => unfold maxLen; omega
          case c4 => omega
          case c5 => have := HSZ2.out; simp; omega
          intro v' w5 hown' hgr5 _
          have HO5 := Lib.hid hown'
          have HB25 := Lib.hid (show Below w.heap.size w w5 from ((HB2.out.alloc HB2.out.size _).alloc (by have := HB2.out.size; simp; omega) _).grown hgr5 (by have := HB2.out.size; simp; omega) (own_geB HOW2.out (by omega)))
          have HF := Lib.hid (show w5.ownsRow (w.heap.size + 1) 34 4 v' (n + 1) (flatT (acc ++ [madeT T (p + g)])) by rw [flatT_snoc, HMD.out]; exact HO5.out)
          have HS5 := Lib.hid (show ScAt w5 w.heap.size s (p + g + T.size) from Blk.grown (Blk.grownN (Blk.grownN HS2.out (World.grownBy_alloc _ _ none)) (World.grownBy_alloc _ _ none)) hgr5 (fun e => by have := own_geB HOW2.out (Nat.le_refl _) _ e.symm; omega))
          clear hown' hgr5
          go_wp2_with fail
          go_roundw
          case rel =>
            have hl : (acc ++ [madeT T (p + g)]).length = n + 1 := by rw [List.length_append, HN.out]; rfl
            refine ⟨p + g + T.size, n + 1, f', acc ++ [madeT T (p + g)], hl, by omega, by have := HT12.out; omega, Lib.hid ⟨?_, ?_⟩, HS5.out, HF.out, HB25.out⟩
            · rw [HR.out, List.drop_drop, Nat.add_assoc]
            · have h1 := HLF.out
              have h2 := HT12.out
              rw [List.length_drop, length_strL] at h1 ⊢
              omega
          case measure => rw [hpos, ScAt.posS HS5.out]; have := HT12.out; omega
end Go.Proofs.YtljdnjidphmkjaaDoor
namespace Go.Proofs.YtljdnjidphmkjaaDoor
open Go Go.RowKit
def exS : ByteArray := ⟨#[112, 101, 114, 109, 105, 116, 32, 119, 104, 101, 110, 32, 116, 105, 109, 101, 32, 60, 61, 32, 45, 55, 59, 32, 35, 32, 120]⟩
def exT : List TokM := [⟨1, ⟨#[112, 101, 114, 109, 105, 116]⟩, 0, 0⟩, ⟨1, ⟨#[119, 104, 101, 110]⟩, 0, 7⟩, ⟨1, ⟨#[116, 105, 109, 101]⟩, 0, 12⟩, ⟨4, ⟨#[60, 61]⟩, 0, 17⟩, ⟨3, ⟨#[]⟩, -7, 20⟩, ⟨4, ⟨#[59]⟩, 0, 22⟩, ⟨5, ⟨#[]⟩, 0, 27⟩]
theorem exScan : scanL (strL exS) = (exT, 0, -1) := by kernel_rfl
set_option maxRecDepth 100000 in
set_option maxHeartbeats 4000000 in
theorem alive11_any (w : World) (hm : Marks w) (hM : MaxL w) : Calls Tryd.prog 7 #[] w fun e w' => e = .returned (.bool true) ∧ Below w.heap.size w w' := by
  have HS := Lib.hid ((scan_short exS w hm hM (by decide)).mono (R' := fun e w' => ∃ b o c, e = .returned (.tuple #[.slice (some ⟨b, o, none⟩) 7 c, .nilIface]) ∧ 7 ≤ c ∧ Below w.heap.size w w' ∧ w'.cell? ⟨b, o + 1, none⟩ = some (.string ⟨#[112, 101, 114, 109, 105, 116]⟩) ∧ w'.cell? ⟨b, o + 7, none⟩ = some (.int .i64 7) ∧ w'.cell? ⟨b, o + 13, none⟩ = some (.string ⟨#[60, 61]⟩) ∧ w'.cell? ⟨b, o + 18, none⟩ = some (.int .i64 (-7)) ∧ w'.cell? ⟨b, o + 24, none⟩ = some (.int .i64 5)) (by
    rintro e w' ⟨A, c, v, rfl, hc, ht, he, hb⟩
    rw [exScan] at hc ht he ⊢
    obtain ⟨b, o, rfl, _, hx⟩ := ht (by decide)
    have hv : v = .nilIface := by
      rcases he with ⟨_, _, h⟩ | ⟨h, _⟩ | ⟨h, _⟩
      · exact h
      · exact absurd rfl h
      · exact absurd rfl h
    subst hv
    exact ⟨b, o, c, rfl, hc, hb, (hx 0 _ rfl).2.1, (hx 1 _ rfl).2.2.2, (hx 3 _ rfl).2.1, (hx 4 _ rfl).2.2.1, (hx 6 _ rfl).1⟩))
  unfold exS at HS
  clear hm hM
  go_enter Tryd.func7, Tryd.ntmps7
  go_wp2_with fail
  refine HS.out.mono ?_
  rintro e w1 ⟨b, o, c, rfl, hc, hb, x0, x1, x3, x4, x6⟩
  have HB := Lib.hid hb
  have hc1 : (7 : Int) ≤ (c : Int) := by omega
  clear hb
  go_wp2_with fail
  go_ret
  exact ⟨rfl, HB.out⟩
end Go.Proofs.YtljdnjidphmkjaaDoor
namespace Go.Proofs.YtljdnjidphmkjaaDoor
open Go Go.RowKit
abbrev tokV (k : Int) (s : ByteArray) (n p : Int) : Value := .agg #[.int .i64 k, .string s, .int .i64 n, .int .i64 p]
theorem spell_sign (s : ByteArray) (n p : Int) : toS (spellN ⟨4, s, n, p⟩) = if isSignB s then s else ⟨#[]⟩ := by
  have e : spellN ⟨4, s, n, p⟩ = if signN (strL s) = s.size then strL s else [] := rfl
  rw [e]
  by_cases h : signN (strL s) = s.size
  · rw [if_pos h, toS_strL]
    by_cases h0 : s.size = 0
    · rw [str_nil h0]; rfl
    · rw [if_pos (show isSignB s = true from decide_eq_true ⟨h0, h⟩)]
  · rw [if_neg h, if_neg (show ¬ isSignB s = true from fun hq => h (of_decide_eq_true hq).2)]; rfl
theorem spell_text (s : ByteArray) (n p : Int) : spellN ⟨2, s, n, p⟩ = (quoteN (strL s)).1 := rfl
theorem spell_num (s : ByteArray) (n p : Int) : spellN ⟨3, s, n, p⟩ = if -9007199254740991 ≤ n ∧ n ≤ 9007199254740991 then prL n else [] := rfl
theorem spellT_none {k : Int} (s : ByteArray) (n p : Int) (h1 : k ≠ 1) (h2 : k ≠ 2) (h3 : k ≠ 3) (h4 : k ≠ 4) : spellN ⟨k, s, n, p⟩ = [] := by
  unfold spellN
  rw [if_neg h1, if_neg h2, if_neg h3, if_neg h4]
theorem num_cases (n : Int) : (-9007199254740991 ≤ n ∧ n ≤ 9007199254740991) ∨ (¬ -9007199254740991 ≤ n) ∨ (-9007199254740991 ≤ n ∧ ¬ n ≤ 9007199254740991) := by omega
/-! ### The reference's -/
end Go.Proofs.YtljdnjidphmkjaaDoor
namespace Go.Proofs.YtljdnjidphmkjaaDoor
open Go Go.RowKit
/-- Tokens of no text beyond what the walks take. -/
def smallT (ts : List TokM) : Prop := ∀ t ∈ ts, t.text.size ≤ 1000000 ∧ -9223372036854775808 ≤ t.num ∧ t.num ≤ 9223372036854775807
theorem textsN_len (ts : List TokM) : (textsN ts).length ≤ ts.length := by
  unfold textsN
  refine Nat.le_trans (List.length_filter_le _ _) ?_
  rw [List.length_map]; exact Nat.le_refl _
theorem sum_len : ∀ (xs : List (List Int)) (B : Nat), (∀ x ∈ xs, x.length ≤ B) → (xs.map fun x => x.length + 1).sum ≤ xs.length * (B + 1)
  | [], B, _ => by simp
  | x :: r, B, h => by
    have h1 := h x (by simp)
    have h2 := sum_len r B (fun y hy => h y (List.mem_cons_of_mem _ hy))
    rw [List.map_cons, List.sum_cons, List.length_cons, Nat.succ_mul]; omega
theorem textsN_small {ts : List TokM} (h : smallT ts) : ∀ x ∈ textsN ts, x.length ≤ 2000040 := fun x hx => by
  obtain ⟨t, ht, rfl⟩ := List.mem_map.1 (List.mem_filter.1 hx).1
  have h1 := spellN_len t
  have h2 := (h t ht).1
  omega
theorem joinN_len {ts : List TokM} (h : smallT ts) (hn : ts.length ≤ 1000) : (joinN ts).length ≤ 2000041000 := by
  have h1 := glue_len (textsN ts)
  have h2 := sum_len _ _ (textsN_small h)
  have h3 := textsN_len ts
  have h4 : (textsN ts).length * (2000040 + 1) ≤ 1000 * (2000040 + 1) := Nat.mul_le_mul_right _ (by omega)
  unfold joinN
  omega
/-! ### The reference's Join -/
/-! ### Same -/
end Go.Proofs.YtljdnjidphmkjaaDoor
namespace Go.Proofs.YtljdnjidphmkjaaDoor
open Go Go.RowKit
/-- What a law of layer 11 asks of the world. -/
structure Ask11 (w : World) : Prop where
  marks : Marks w
  max : MaxL w
end Go.Proofs.YtljdnjidphmkjaaDoor
