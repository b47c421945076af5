/- LxTok, LxToks, LxScan, LxAlive, LxSpell, LxJoin, LxLawS, LxBackM, LxLawB, LxLawP, LxBlanksM, LxJoin2: merged. -/
import Derived.Maps.OwnSet
import Derived.Deep.AppendLies
import Derived.Lib.SplitLaws
import Derived.OwnWalk
import Derived.Deep.CutBlock
import Derived.Deep.CutRange
import Derived.Test.YtljdnjidphmkjaaDoorLk08
import Derived.Test.YtljdnjidphmkjaaDoorLk10
set_option linter.all false
namespace Go.Proofs.YtljdnjidphmkjaaDoor
open Go Go.RowKit
theorem sizeInt : (Tryd.prog.info? 3).map (·.size) = some 1 := by kernel_rfl
theorem sizeTok : (Tryd.prog.info? 34).map (·.size) = some 4 := by kernel_rfl
theorem zeroTok : (Tryd.prog.info? 34).map (·.zero) = some (some (.agg #[.int .i64 0, .string ⟨#[]⟩, .int .i64 0, .int .i64 0])) := by kernel_rfl
theorem sizeStr : (Tryd.prog.info? 9).map (·.size) = some 1 := by kernel_rfl
theorem sizeI64 : (Tryd.prog.info? 2).map (·.size) = some 1 := by kernel_rfl
theorem tok_cells {w : World} {g : Nat} {a b c d : Value} (h : Blk w g 34 [a, b, c, d]) : w.cell? ⟨g, 0, none⟩ = some a ∧ w.cell? ⟨g, 1, none⟩ = some b ∧ w.cell? ⟨g, 2, none⟩ = some c ∧ w.cell? ⟨g, 3, none⟩ = some d := ⟨h.cell 0, h.cell 1, h.cell 2, h.cell 3⟩
theorem grown_above {w A A' : World} {row : Option Nat} {g : Nat} (h : w.grownBy A row) (k : A.grownBy A' (some g)) (hg : w.heap.size ≤ g) : w.grownBy A' row :=
  ⟨k.os.trans h.os, k.tape.trans h.tape, k.output.trans h.output, Nat.le_trans h.size k.size, fun i hi hr => (k.block i (Nat.lt_of_lt_of_le hi h.size) (fun e => by injection e with e; omega)).trans (h.block i hi hr)⟩
theorem AtE.grownG {pos n : Int} {w W W' : World} {v : Value} {g : Nat} (h : AtE pos n w v W) (k : W.grownBy W' (some g)) (hg : g < w.heap.size) : AtE pos n w v W' := by
  obtain ⟨b, e, h0, h1, h2⟩ := h
  have hlt : b < W.heap.size := lt_of_cell h0
  have hb := k.block b hlt (fun e => by injection e with e; omega)
  exact ⟨b, e, (World.cell?_of_block (a := ⟨b, 0, none⟩) hb).trans h0, (World.cell?_of_block (a := ⟨b, 0 + 1, none⟩) hb).trans h1, h2⟩
/-- The token ahead, and its kind. -/
theorem kind_cases (l : List Int) : (l = [] ∧ kindL l = 5 ∧ tokL l = ⟨0, 0, 5, [], 0, 0⟩) ∨
    (32 < wordN l ∧ kindL l = 1 ∧ tokL l = ⟨110, 0, 1, [], 0, 0⟩) ∨ (¬ 32 < wordN l ∧ kindL l = 1 ∧ tokL l = ⟨0, 0, 1, l.take (wordN l), 0, wordN l⟩) ∨
    (∃ r, l = 34 :: r ∧ kindL l = 2 ∧ (quotN r).2.2 = true ∧ tokL l = ⟨0, 0, 2, (quotN r).1, 0, (quotN r).2.1 + 1⟩) ∨
    (∃ r, l = 34 :: r ∧ kindL l = 2 ∧ (quotN r).2.2 = false ∧ tokL l = ⟨110, (quotN r).2.1 + 1, 2, [], 0, 0⟩) ∨
    (leadL l ≠ 0 ∧ kindL l = 3 ∧ fitL (l.take (leadL l)) (-9007199254740991) 9007199254740991 = false ∧ tokL l = ⟨41, 0, 3, [], 0, 0⟩) ∨
    (leadL l ≠ 0 ∧ kindL l = 3 ∧ fitL (l.take (leadL l)) (-9007199254740991) 9007199254740991 = true ∧ tokL l = ⟨0, 0, 3, [], numL (l.take (leadL l)), leadL l⟩) ∨
    (0 < signN l ∧ kindL l = 4 ∧ tokL l = ⟨0, 0, 4, l.take (signN l), 0, signN l⟩) ∨
    (kindL l = 0 ∧ tokL l = ⟨110, 0, 0, [], 0, 0⟩) := by
  cases l with
  | nil => exact .inl ⟨rfl, rfl, rfl⟩
  | cons c r =>
    have hk : kindL (c :: r) = if 0 < wordN (c :: r) then 1 else if c = 34 then 2 else if 0 < leadL (c :: r) then 3 else if 0 < signN (c :: r) then 4 else 0 := by
      unfold kindL; rw [if_neg (by simp), List.getD_cons_zero]
    rw [hk, tokL_cons]
    cases hs : smallC c with
    | true =>
      have hw : 0 < wordN (c :: r) := by rw [wordN_go hs]; omega
      rw [if_pos hw, if_pos rfl]
      by_cases h : 32 < wordN (c :: r)
      · rw [if_pos h]; exact .inr (.inl ⟨h, rfl, rfl⟩)
      · rw [if_neg h]; exact .inr (.inr (.inl ⟨h, rfl, rfl⟩))
    | false =>
      rw [if_neg (show ¬ 0 < wordN (c :: r) by rw [wordN_stop hs]; omega), if_neg (show ¬ (false = true) by decide)]
      by_cases h34 : c = 34
      · subst h34
        rw [if_pos rfl, if_pos rfl]
        cases hq : (quotN r).2.2 with
        | true => rw [if_pos rfl]; exact .inr (.inr (.inr (.inl ⟨r, rfl, rfl, hq, rfl⟩)))
        | false => rw [if_neg (by decide)]; exact .inr (.inr (.inr (.inr (.inl ⟨r, rfl, rfl, hq, rfl⟩))))
      · rw [if_neg h34, if_neg h34]
        by_cases hl : 0 < leadL (c :: r)
        · rw [if_pos hl, if_pos hl]
          cases hf : fitL ((c :: r).take (leadL (c :: r))) (-9007199254740991) 9007199254740991 with
          | true => rw [if_pos rfl]; exact .inr (.inr (.inr (.inr (.inr (.inr (.inl ⟨by omega, rfl, rfl, rfl⟩))))))
          | false => rw [if_neg (by decide)]; exact .inr (.inr (.inr (.inr (.inr (.inl ⟨by omega, rfl, rfl, rfl⟩)))))
        · rw [if_neg hl, if_neg hl]
          by_cases hg : 0 < signN (c :: r)
          · rw [if_pos hg, if_pos hg]; exact .inr (.inr (.inr (.inr (.inr (.inr (.inr (.inl ⟨hg, rfl, rfl⟩)))))))
          · rw [if_neg hg, if_neg hg]; exact .inr (.inr (.inr (.inr (.inr (.inr (.inr (.inr ⟨rfl, rfl⟩)))))))
theorem quote_at {s : ByteArray} {P : Nat} {c : Int} {r : List Int} (h : (strL s).drop P = c :: r) : r = (strL s).drop (P + 1) ∧ P < s.size := by
  refine ⟨(ahN_cons h).2, ?_⟩
  rcases Nat.lt_or_ge P s.size with h' | h'
  · exact h'
  · rw [List.drop_eq_nil_of_le (by rw [length_strL]; exact h')] at h; cases h
/-- What token tells. -/
def TokTells (w : World) (b : Nat) (s : ByteArray) (P : Nat) (t : TokR) (e : Ending) (w' : World) : Prop :=
  (t.err ≠ 0 ∧ ∃ k2 s2 n2 p2 v, e = .returned (.tuple #[.agg #[.int .i64 k2, .string s2, .int .i64 n2, .int .i64 p2], v]) ∧ AtE ((P + t.off : Nat) : Int) t.err w v w' ∧ w.grownBy w' (some b)) ∨
  (t.err = 0 ∧ e = .returned (.tuple #[.agg #[.int .i64 t.kind, .string (toS t.text), .int .i64 t.num, .int .i64 (P : Int)], .nilIface]) ∧ MovedS w w' b s (P + t.size))
set_option maxRecDepth 100000 in
set_option maxHeartbeats 8000000 in
theorem token_any (b : Nat) (s : ByteArray) (P : Nat) (w : World) (hM : Marks w) (h : ScAt w b s P) (hp : P ≤ s.size) (hs : s.size ≤ 1000000) :
    Calls Tryd.prog 20 #[.pointer (some ⟨b, 0, none⟩)] w (TokTells w b s P (tokL ((strL s).drop P))) := by
  have HM := Lib.hid hM
  have HSC := Lib.hid h
  have hbl := h.lt
  have HRE := Lib.hid (fun (W : World) (hW : ScAt W b s P) => rest_any b s P W hW hp (by omega))
  have HKI := Lib.hid (fun W : World => kindOf_any (aheadS s P) W (by rw [aheadS_size]; omega))
  rw [aheadS_L] at HKI
  obtain ⟨κ, hκ⟩ : ∃ κ, κ = kindL ((strL s).drop P) := ⟨_, rfl⟩
  rw [← hκ] at HKI
  have HK := Lib.hid hκ
  clear h hM hκ
  go_enter Tryd.func20, Tryd.ntmps20
  go_wp2_with (first | (refine wpList_alloc_blk rfl (some 2) rfl _ rfl _ zeroTok ?_; intro g w1 hg1 hb1 hgr1; have HG1 := Lib.hid hg1; have HB1 := Lib.hid hb1; have HW1 := Lib.hid (show Below w.heap.size w w1 from (Below.refl _ w).grown hgr1 (Nat.le_refl _) (by simp)); clear hgr1 hb1))
  have HS1 := Lib.hid (show ScAt w1 b s P from Blk.below HSC.out HW1.out hbl)
  have hc1 : w1.cell? ⟨b, 1, none⟩ = some (.int .i64 (P : Int)) := (ScAt.cells HS1.out).2.1
  refine wp_region_held_drew (S := fun X => X.cell? ⟨b, 1, none⟩ = some (.int .i64 (P : Int))) (by kernel_rfl) hc1 (fun hHeld => ?_)
  refine rgT 0 ?_
  try simp only [rgS]
  refine rgT 3 ?_
  try simp only [rgS]
  refine rgT 4 ?_
  try simp only [rgS]
  refine rgT 5 ?_
  try simp only [rgS]
  refine rgT 6 ?_
  try simp only [rgS]
  refine rgO 1 (fun K hK => ?_)
  go_simp
  (with_reducible refine (HRE.out _ HS1.out.drew).mono ?_)
  rintro e w2 ⟨rfl, q2, rfl⟩
  refine hK.out _ _ hc1 (fun hH2 => ?_)
  clear hK K hHeld
  try simp only [rgS]
  refine rgO 2 (fun K hK => ?_)
  go_simp
  (with_reducible refine (HKI.out _).mono ?_)
  rintro e w3 ⟨rfl, hb3⟩
  have HB3 := Lib.hid (show Below w1.heap.size w1 w3 from (below_drewN (Below.refl _ w1) _).trans hb3)
  have hc3 : w3.cell? ⟨b, 1, none⟩ = some (.int .i64 (P : Int)) := (HB3.out.cell (p := ⟨b, 1, none⟩) HS1.out.lt).trans hc1
  refine hK.out _ _ hc3 (fun hH3 => ?_)
  have HT3 := Lib.hid (show Blk w3 g 34 _ from Blk.below HB1.out HB3.out HB1.out.lt)
  clear hK K hH2 hb3
  try simp only [rgS]
  refine rgT 7 ?_
  try simp only [rgS]
  refine rgO 8 (fun K hK => ?_)
  rw [if_pos (by kernel_rfl)]
  refine wp_store_one 3 (.tmp 11) (.tmp 6) rfl g 0 (.int .i64 κ) rfl rfl rfl _ _ HT3.out (by simp) sizeInt ?_
  intro w4 hk4 hg4
  have hgb : g ≠ b := by have := HG1.out; omega
  have hb3l : b < w3.heap.size := Nat.lt_of_lt_of_le HS1.out.lt HB3.out.size
  have hc4 : w4.cell? ⟨b, 1, none⟩ = some (.int .i64 (P : Int)) := (World.cell?_of_block (a := ⟨b, 1, none⟩) (hg4.block b hb3l (fun e => hgb (Option.some.inj e).symm))).trans hc3
  refine hK.out _ _ hc4 (fun hH4 => ?_)
  clear hK K hH3
  have HK4 := Lib.hid hk4
  have HG4 := Lib.hid hg4
  clear hk4 hg4
  try simp only [rgS]
  refine rgT 9 ?_
  try simp only [rgS]
  refine rgO 10 (fun K hK => ?_)
  rw [if_pos (by kernel_rfl)]
  refine wp_store_one 3 (.tmp 12) (.tmp 10) rfl g 3 (.int .i64 (P : Int)) rfl rfl rfl _ _ HK4.out (by simp) sizeInt ?_
  intro w5 hk5 hg5
  have hb4l : b < w4.heap.size := Nat.lt_of_lt_of_le hb3l HG4.out.size
  have hc5 : w5.cell? ⟨b, 1, none⟩ = some (.int .i64 (P : Int)) := (World.cell?_of_block (a := ⟨b, 1, none⟩) (hg5.block b hb4l (fun e => hgb (Option.some.inj e).symm))).trans hc4
  refine hK.out _ _ hc5 (fun hH5 => ?_)
  clear hK K hH4
  have HT := Lib.hid (show Blk w5 g 34 [.int .i64 κ, .string ⟨#[]⟩, .int .i64 0, .int .i64 (P : Int)] from hk5)
  have HB5 := Lib.hid (show Below w.heap.size w w5 from ((HW1.out.trans (HB3.out.mono HW1.out.size)).grown HG4.out (Nat.le_trans HW1.out.size HB3.out.size) (by intro k hk; injection hk with hk; have := HG1.out; omega)).grown hg5 (Nat.le_trans (Nat.le_trans HW1.out.size HB3.out.size) HG4.out.size) (by intro k hk; injection hk with hk; have := HG1.out; omega))
  have HS5 := Lib.hid (show ScAt w5 b s P from Blk.below HSC.out HB5.out hbl)
  have HM5 := Lib.hid (HM.out.below HB5.out)
  clear hk5 hg5 hc1 hc3 hc4 hc5 HK4 HG4 HT3 HB3 HB1 HS1 HKI HRE
  try simp only [rgS]
  refine wpAnyH_done (by kernel_rfl) ?_ _
  rcases kind_cases ((strL s).drop P) with ⟨_, hk', htok⟩ | ⟨hw, hk', htok⟩ | ⟨hw, hk', htok⟩ | ⟨r, hr, hk', hq, htok⟩ | ⟨r, hr, hk', hq, htok⟩ | ⟨hl, hk', hq, htok⟩ | ⟨hl, hk', hq, htok⟩ | ⟨hl, hk', htok⟩ | ⟨hk', htok⟩
  all_goals have hk := HK.out.trans hk'
  all_goals clear hk'
  · -- the end
    subst hk
    have z0 := HT.out.cell 0
    have z1 := HT.out.cell 1
    have z2 := HT.out.cell 2
    have z3 := HT.out.cell 3
    simp only [List.getElem?_cons_zero, List.getElem?_cons_succ] at z0 z1 z2 z3
    go_wp2_with (first | (refine wpList_store_blk rfl none rfl _ (.tmp 2) (.tmp 52) rfl g 0 [.int .i64 5, .string ⟨#[]⟩, .int .i64 0, .int .i64 (P : Int)] rfl rfl _ _ HT.out (by simp) sizeTok (by intro v hv; simp at hv; rcases hv with rfl | rfl | rfl | rfl <;> rfl) ?_; intro w9 hb9 hg9; rw [splice_all _ _ rfl] at hb9; have HT9 := Lib.hid hb9; have HG9 := Lib.hid hg9; clear hb9 hg9; try go_frame))
    (try simp only [Exit.inBlock, Exit.then])
    have r0 := HT9.out.cell 0
    have r1 := HT9.out.cell 1
    have r2 := HT9.out.cell 2
    have r3 := HT9.out.cell 3
    refine bodyPost_ret (v := .tuple #[.agg #[.int .i64 5, .string ⟨#[]⟩, .int .i64 0, .int .i64 (P : Int)], .nilIface]) ?_ rfl ?_
    · rw [results_cell_tmp rfl]; go_simp <;> rfl
    · rw [htok]
      refine .inr ⟨rfl, rfl, ?_, ?_⟩
      · exact grown_above (grownBy_of_below HB5.out _) HG9.out HG1.out
      · exact Blk.grown (show ScAt w5 b s (P + 0) from HS5.out) HG9.out (fun e => hgb (Option.some.inj e).symm)
  · -- a word too long
    subst hk
    have HC := Lib.hid (word_long b s P w5 HS5.out hp (by omega) hw)
    have z0 := HT.out.cell 0
    have z1 := HT.out.cell 1
    have z2 := HT.out.cell 2
    have z3 := HT.out.cell 3
    simp only [List.getElem?_cons_zero, List.getElem?_cons_succ] at z0 z1 z2 z3
    go_wp2_with fail
    refine HC.out.mono ?_
    rintro e w6 ⟨v, rfl, hv, hb6⟩
    have HG6 := Lib.hid (grownBy_of_below hb6 (some b))
    have HT6 := Lib.hid (HT.out.below hb6 HT.out.lt)
    have HV := Lib.hid hv
    clear hb6 hv
    obtain ⟨z0, z1, z2, z3⟩ := tok_cells HT6.out
    go_wp2_with (first | (refine wpList_store_cell rfl none rfl _ (.tmp 25) (.tmp 23) rfl g 1 (.string ⟨#[]⟩) rfl rfl rfl _ _ HT6.out (by simp) sizeStr ?_; intro w7 hb7 hg7; have HT7 := Lib.hid (show Blk w7 g 34 [.int .i64 1, .string ⟨#[]⟩, .int .i64 0, .int .i64 (P : Int)] from hb7); have HG7 := Lib.hid hg7; obtain ⟨z0, z1, z2, z3⟩ := tok_cells HT7.out; clear hb7 hg7; try go_frame) | (refine wpList_store_blk rfl none rfl _ (.tmp 2) (.tmp 52) rfl g 0 [.int .i64 1, .string ⟨#[]⟩, .int .i64 0, .int .i64 (P : Int)] rfl rfl _ _ HT7.out (by simp) sizeTok (by intro v hv; simp at hv; rcases hv with rfl | rfl | rfl | rfl <;> rfl) ?_; intro w9 hb9 hg9; rw [splice_all _ _ rfl] at hb9; have HT9 := Lib.hid hb9; have HG9 := Lib.hid hg9; clear hb9 hg9; try go_frame))
    (try simp only [Exit.inBlock, Exit.then])
    have r0 := HT9.out.cell 0
    have r1 := HT9.out.cell 1
    have r2 := HT9.out.cell 2
    have r3 := HT9.out.cell 3
    refine bodyPost_ret (v := .tuple #[.agg #[.int .i64 1, .string ⟨#[]⟩, .int .i64 0, .int .i64 (P : Int)], v]) ?_ rfl ?_
    · rw [results_cell_tmp rfl]; go_simp <;> rfl
    · rw [htok]
      refine .inl ⟨(by intro h; cases h), _, _, _, _, _, rfl, ?_, ?_⟩
      · exact AtE.low (AtE.grownG (AtE.grownG (HV.out) HG7.out HT.out.lt) HG9.out HT.out.lt) HB5.out.size
      · exact grown_above (grown_above ((grownBy_of_below HB5.out (some b)).trans HG6.out) HG7.out HG1.out) HG9.out HG1.out
  · -- a word
    subst hk
    have HC := Lib.hid (word_ok b s P w5 HS5.out hp (by omega) hw)
    have z0 := HT.out.cell 0
    have z1 := HT.out.cell 1
    have z2 := HT.out.cell 2
    have z3 := HT.out.cell 3
    simp only [List.getElem?_cons_zero, List.getElem?_cons_succ] at z0 z1 z2 z3
    go_wp2_with fail
    refine HC.out.mono ?_
    rintro e w6 ⟨rfl, hg6, hs6⟩
    have HG6 := Lib.hid hg6
    have HT6 := Lib.hid (HT.out.grown hg6 (fun e => hgb (Option.some.inj e)))
    have HS6 := Lib.hid hs6
    clear hg6 hs6
    obtain ⟨z0, z1, z2, z3⟩ := tok_cells HT6.out
    go_wp2_with (first | (refine wpList_store_cell rfl none rfl _ (.tmp 25) (.tmp 23) rfl g 1 (.string (toS (((strL s).drop P).take (wordN ((strL s).drop P))))) rfl rfl rfl _ _ HT6.out (by simp) sizeStr ?_; intro w7 hb7 hg7; have HT7 := Lib.hid (show Blk w7 g 34 [.int .i64 1, .string (toS (((strL s).drop P).take (wordN ((strL s).drop P)))), .int .i64 0, .int .i64 (P : Int)] from hb7); have HG7 := Lib.hid hg7; obtain ⟨z0, z1, z2, z3⟩ := tok_cells HT7.out; clear hb7 hg7; try go_frame) | (refine wpList_store_blk rfl none rfl _ (.tmp 2) (.tmp 52) rfl g 0 [.int .i64 1, .string (toS (((strL s).drop P).take (wordN ((strL s).drop P)))), .int .i64 0, .int .i64 (P : Int)] rfl rfl _ _ HT7.out (by simp) sizeTok (by intro v hv; simp at hv; rcases hv with rfl | rfl | rfl | rfl <;> rfl) ?_; intro w9 hb9 hg9; rw [splice_all _ _ rfl] at hb9; have HT9 := Lib.hid hb9; have HG9 := Lib.hid hg9; clear hb9 hg9; try go_frame))
    (try simp only [Exit.inBlock, Exit.then])
    have r0 := HT9.out.cell 0
    have r1 := HT9.out.cell 1
    have r2 := HT9.out.cell 2
    have r3 := HT9.out.cell 3
    refine bodyPost_ret (v := .tuple #[.agg #[.int .i64 1, .string (toS (((strL s).drop P).take (wordN ((strL s).drop P)))), .int .i64 0, .int .i64 (P : Int)], .nilIface]) ?_ rfl ?_
    · rw [results_cell_tmp rfl]; go_simp <;> rfl
    · rw [htok]
      refine .inr ⟨rfl, rfl, ?_, ?_⟩
      · exact grown_above (grown_above ((grownBy_of_below HB5.out (some b)).trans HG6.out) HG7.out HG1.out) HG9.out HG1.out
      · exact Blk.grown (Blk.grown (HS6.out) HG7.out (fun e => hgb (Option.some.inj e).symm)) HG9.out (fun e => hgb (Option.some.inj e).symm)
  · -- a text
    subst hk
    obtain ⟨hr2, hpl⟩ := quote_at hr
    rw [hr2] at hq htok
    clear hr hr2
    have HC := Lib.hid (quoted_any b s P w5 HM5.out HS5.out hpl hs)
    unfold QuTells at HC
    rw [hq] at HC
    have z0 := HT.out.cell 0
    have z1 := HT.out.cell 1
    have z2 := HT.out.cell 2
    have z3 := HT.out.cell 3
    simp only [List.getElem?_cons_zero, List.getElem?_cons_succ] at z0 z1 z2 z3
    go_wp2_with fail
    refine HC.out.mono ?_
    rintro e w6 (⟨_, rfl, hg6, hs6⟩ | ⟨h, _⟩)
    case inr => cases h
    have HG6 := Lib.hid hg6
    have HT6 := Lib.hid (HT.out.grown hg6 (fun e => hgb (Option.some.inj e)))
    have HS6 := Lib.hid hs6
    clear hg6 hs6
    obtain ⟨z0, z1, z2, z3⟩ := tok_cells HT6.out
    go_wp2_with (first | (refine wpList_store_cell rfl none rfl _ (.tmp 33) (.tmp 31) rfl g 1 (.string (toS (quotN ((strL s).drop (P + 1))).1)) rfl rfl rfl _ _ HT6.out (by simp) sizeStr ?_; intro w7 hb7 hg7; have HT7 := Lib.hid (show Blk w7 g 34 [.int .i64 2, .string (toS (quotN ((strL s).drop (P + 1))).1), .int .i64 0, .int .i64 (P : Int)] from hb7); have HG7 := Lib.hid hg7; obtain ⟨z0, z1, z2, z3⟩ := tok_cells HT7.out; clear hb7 hg7; try go_frame) | (refine wpList_store_blk rfl none rfl _ (.tmp 2) (.tmp 52) rfl g 0 [.int .i64 2, .string (toS (quotN ((strL s).drop (P + 1))).1), .int .i64 0, .int .i64 (P : Int)] rfl rfl _ _ HT7.out (by simp) sizeTok (by intro v hv; simp at hv; rcases hv with rfl | rfl | rfl | rfl <;> rfl) ?_; intro w9 hb9 hg9; rw [splice_all _ _ rfl] at hb9; have HT9 := Lib.hid hb9; have HG9 := Lib.hid hg9; clear hb9 hg9; try go_frame))
    (try simp only [Exit.inBlock, Exit.then])
    have r0 := HT9.out.cell 0
    have r1 := HT9.out.cell 1
    have r2 := HT9.out.cell 2
    have r3 := HT9.out.cell 3
    refine bodyPost_ret (v := .tuple #[.agg #[.int .i64 2, .string (toS (quotN ((strL s).drop (P + 1))).1), .int .i64 0, .int .i64 (P : Int)], .nilIface]) ?_ rfl ?_
    · rw [results_cell_tmp rfl]; go_simp <;> rfl
    · rw [htok]
      refine .inr ⟨rfl, rfl, ?_, ?_⟩
      · exact grown_above (grown_above ((grownBy_of_below HB5.out (some b)).trans HG6.out) HG7.out HG1.out) HG9.out HG1.out
      · rw [show P + ((quotN ((strL s).drop (P + 1))).2.1 + 1) = P + 1 + (quotN ((strL s).drop (P + 1))).2.1 by omega]
        exact Blk.grown (Blk.grown (HS6.out) HG7.out (fun e => hgb (Option.some.inj e).symm)) HG9.out (fun e => hgb (Option.some.inj e).symm)
  · -- a text that fails
    subst hk
    obtain ⟨hr2, hpl⟩ := quote_at hr
    rw [hr2] at hq htok
    clear hr hr2
    have HC := Lib.hid (quoted_any b s P w5 HM5.out HS5.out hpl hs)
    unfold QuTells at HC
    rw [hq] at HC
    have z0 := HT.out.cell 0
    have z1 := HT.out.cell 1
    have z2 := HT.out.cell 2
    have z3 := HT.out.cell 3
    simp only [List.getElem?_cons_zero, List.getElem?_cons_succ] at z0 z1 z2 z3
    go_wp2_with fail
    refine HC.out.mono ?_
    rintro e w6 (⟨h, _⟩ | ⟨_, v, rfl, hv, hg6⟩)
    case inl => cases h
    have HG6 := Lib.hid hg6
    have HT6 := Lib.hid (HT.out.grown hg6 (fun e => hgb (Option.some.inj e)))
    have HV := Lib.hid hv
    clear hg6 hv
    obtain ⟨z0, z1, z2, z3⟩ := tok_cells HT6.out
    go_wp2_with (first | (refine wpList_store_cell rfl none rfl _ (.tmp 33) (.tmp 31) rfl g 1 (.string ⟨#[]⟩) rfl rfl rfl _ _ HT6.out (by simp) sizeStr ?_; intro w7 hb7 hg7; have HT7 := Lib.hid (show Blk w7 g 34 [.int .i64 2, .string ⟨#[]⟩, .int .i64 0, .int .i64 (P : Int)] from hb7); have HG7 := Lib.hid hg7; obtain ⟨z0, z1, z2, z3⟩ := tok_cells HT7.out; clear hb7 hg7; try go_frame) | (refine wpList_store_blk rfl none rfl _ (.tmp 2) (.tmp 52) rfl g 0 [.int .i64 2, .string ⟨#[]⟩, .int .i64 0, .int .i64 (P : Int)] rfl rfl _ _ HT7.out (by simp) sizeTok (by intro v hv; simp at hv; rcases hv with rfl | rfl | rfl | rfl <;> rfl) ?_; intro w9 hb9 hg9; rw [splice_all _ _ rfl] at hb9; have HT9 := Lib.hid hb9; have HG9 := Lib.hid hg9; clear hb9 hg9; try go_frame))
    (try simp only [Exit.inBlock, Exit.then])
    have r0 := HT9.out.cell 0
    have r1 := HT9.out.cell 1
    have r2 := HT9.out.cell 2
    have r3 := HT9.out.cell 3
    refine bodyPost_ret (v := .tuple #[.agg #[.int .i64 2, .string ⟨#[]⟩, .int .i64 0, .int .i64 (P : Int)], v]) ?_ rfl ?_
    · rw [results_cell_tmp rfl]; go_simp <;> rfl
    · rw [htok]
      refine .inl ⟨(by intro h; cases h), _, _, _, _, _, rfl, ?_, ?_⟩
      · rw [show P + ((quotN ((strL s).drop (P + 1))).2.1 + 1) = P + 1 + (quotN ((strL s).drop (P + 1))).2.1 by omega]
        exact AtE.low (AtE.grownG (AtE.grownG (HV.out) HG7.out HT.out.lt) HG9.out HT.out.lt) HB5.out.size
      · exact grown_above (grown_above ((grownBy_of_below HB5.out (some b)).trans HG6.out) HG7.out HG1.out) HG9.out HG1.out
  · -- a number beyond
    subst hk
    have HC := Lib.hid (numberS_any b s P w5 HS5.out hp hs hl)
    unfold NumTellsS at HC
    rw [hq] at HC
    have z0 := HT.out.cell 0
    have z1 := HT.out.cell 1
    have z2 := HT.out.cell 2
    have z3 := HT.out.cell 3
    simp only [List.getElem?_cons_zero, List.getElem?_cons_succ] at z0 z1 z2 z3
    go_wp2_with fail
    refine HC.out.mono ?_
    rintro e w6 (⟨_, v, rfl, hv, hb6⟩ | ⟨h, _⟩)
    case inr => cases h
    have HG6 := Lib.hid (grownBy_of_below hb6 (some b))
    have HT6 := Lib.hid (HT.out.below hb6 HT.out.lt)
    have HV := Lib.hid hv
    clear hb6 hv
    obtain ⟨z0, z1, z2, z3⟩ := tok_cells HT6.out
    go_wp2_with (first | (refine wpList_store_cell rfl none rfl _ (.tmp 41) (.tmp 39) rfl g 2 (.int .i64 0) rfl rfl rfl _ _ HT6.out (by simp) sizeI64 ?_; intro w7 hb7 hg7; have HT7 := Lib.hid (show Blk w7 g 34 [.int .i64 3, .string ⟨#[]⟩, .int .i64 0, .int .i64 (P : Int)] from hb7); have HG7 := Lib.hid hg7; obtain ⟨z0, z1, z2, z3⟩ := tok_cells HT7.out; clear hb7 hg7; try go_frame) | (refine wpList_store_blk rfl none rfl _ (.tmp 2) (.tmp 52) rfl g 0 [.int .i64 3, .string ⟨#[]⟩, .int .i64 0, .int .i64 (P : Int)] rfl rfl _ _ HT7.out (by simp) sizeTok (by intro v hv; simp at hv; rcases hv with rfl | rfl | rfl | rfl <;> rfl) ?_; intro w9 hb9 hg9; rw [splice_all _ _ rfl] at hb9; have HT9 := Lib.hid hb9; have HG9 := Lib.hid hg9; clear hb9 hg9; try go_frame))
    (try simp only [Exit.inBlock, Exit.then])
    have r0 := HT9.out.cell 0
    have r1 := HT9.out.cell 1
    have r2 := HT9.out.cell 2
    have r3 := HT9.out.cell 3
    refine bodyPost_ret (v := .tuple #[.agg #[.int .i64 3, .string ⟨#[]⟩, .int .i64 0, .int .i64 (P : Int)], v]) ?_ rfl ?_
    · rw [results_cell_tmp rfl]; go_simp <;> rfl
    · rw [htok]
      refine .inl ⟨(by intro h; cases h), _, _, _, _, _, rfl, ?_, ?_⟩
      · exact AtE.low (AtE.grownG (AtE.grownG (HV.out) HG7.out HT.out.lt) HG9.out HT.out.lt) HB5.out.size
      · exact grown_above (grown_above ((grownBy_of_below HB5.out (some b)).trans HG6.out) HG7.out HG1.out) HG9.out HG1.out
  · -- a number
    subst hk
    have HC := Lib.hid (numberS_any b s P w5 HS5.out hp hs hl)
    unfold NumTellsS at HC
    rw [hq] at HC
    have z0 := HT.out.cell 0
    have z1 := HT.out.cell 1
    have z2 := HT.out.cell 2
    have z3 := HT.out.cell 3
    simp only [List.getElem?_cons_zero, List.getElem?_cons_succ] at z0 z1 z2 z3
    go_wp2_with fail
    refine HC.out.mono ?_
    rintro e w6 (⟨h, _⟩ | ⟨_, rfl, hg6, hs6⟩)
    case inl => cases h
    have HG6 := Lib.hid hg6
    have HT6 := Lib.hid (HT.out.grown hg6 (fun e => hgb (Option.some.inj e)))
    have HS6 := Lib.hid hs6
    clear hg6 hs6
    obtain ⟨z0, z1, z2, z3⟩ := tok_cells HT6.out
    go_wp2_with (first | (refine wpList_store_cell rfl none rfl _ (.tmp 41) (.tmp 39) rfl g 2 (.int .i64 (numL (((strL s).drop P).take (leadL ((strL s).drop P))))) rfl rfl rfl _ _ HT6.out (by simp) sizeI64 ?_; intro w7 hb7 hg7; have HT7 := Lib.hid (show Blk w7 g 34 [.int .i64 3, .string ⟨#[]⟩, .int .i64 (numL (((strL s).drop P).take (leadL ((strL s).drop P)))), .int .i64 (P : Int)] from hb7); have HG7 := Lib.hid hg7; obtain ⟨z0, z1, z2, z3⟩ := tok_cells HT7.out; clear hb7 hg7; try go_frame) | (refine wpList_store_blk rfl none rfl _ (.tmp 2) (.tmp 52) rfl g 0 [.int .i64 3, .string ⟨#[]⟩, .int .i64 (numL (((strL s).drop P).take (leadL ((strL s).drop P)))), .int .i64 (P : Int)] rfl rfl _ _ HT7.out (by simp) sizeTok (by intro v hv; simp at hv; rcases hv with rfl | rfl | rfl | rfl <;> rfl) ?_; intro w9 hb9 hg9; rw [splice_all _ _ rfl] at hb9; have HT9 := Lib.hid hb9; have HG9 := Lib.hid hg9; clear hb9 hg9; try go_frame))
    (try simp only [Exit.inBlock, Exit.then])
    have r0 := HT9.out.cell 0
    have r1 := HT9.out.cell 1
    have r2 := HT9.out.cell 2
    have r3 := HT9.out.cell 3
    refine bodyPost_ret (v := .tuple #[.agg #[.int .i64 3, .string ⟨#[]⟩, .int .i64 (numL (((strL s).drop P).take (leadL ((strL s).drop P)))), .int .i64 (P : Int)], .nilIface]) ?_ rfl ?_
    · rw [results_cell_tmp rfl]; go_simp <;> rfl
    · rw [htok]
      refine .inr ⟨rfl, rfl, ?_, ?_⟩
      · exact grown_above (grown_above ((grownBy_of_below HB5.out (some b)).trans HG6.out) HG7.out HG1.out) HG9.out HG1.out
      · exact Blk.grown (Blk.grown (HS6.out) HG7.out (fun e => hgb (Option.some.inj e).symm)) HG9.out (fun e => hgb (Option.some.inj e).symm)
  · -- a sign
    subst hk
    have HR := Lib.hid (rest_any b s P w5 HS5.out hp (by omega))
    have HL := Lib.hid (fun W : World => leadSign_any (aheadS s P) W)
    rw [aheadS_L] at HL
    have hsl := (signN_le ((strL s).drop P)).1
    rw [List.length_drop, length_strL] at hsl
    have HC := Lib.hid (fun (q : Nat) => take_any b s P (signN ((strL s).drop P)) (w5.drewN q) (Blk.drewN HS5.out q) (by omega) (by omega))
    have z0 := HT.out.cell 0
    have z1 := HT.out.cell 1
    have z2 := HT.out.cell 2
    have z3 := HT.out.cell 3
    simp only [List.getElem?_cons_zero, List.getElem?_cons_succ] at z0 z1 z2 z3
    go_wp2_with fail
    refine HR.out.mono ?_
    rintro e w6 ⟨rfl, q6, rfl⟩
    go_wp2_with fail
    refine (HL.out _).mono ?_
    rintro e w6 ⟨rfl, rfl⟩
    go_wp2_with fail
    refine (HC.out q6).mono ?_
    rintro e w6 ⟨rfl, hg6, hs6⟩
    have hg6 := (grown_drewS (w := w5) q6 (some b)).trans hg6
    have HG6 := Lib.hid hg6
    have HT6 := Lib.hid (HT.out.grown hg6 (fun e => hgb (Option.some.inj e)))
    have HS6 := Lib.hid hs6
    clear hg6 hs6
    obtain ⟨z0, z1, z2, z3⟩ := tok_cells HT6.out
    go_wp2_with (first | (refine wpList_store_cell rfl none rfl _ (.tmp 49) (.tmp 48) rfl g 1 (.string (toS (((strL s).drop P).take (signN ((strL s).drop P))))) rfl rfl rfl _ _ HT6.out (by simp) sizeStr ?_; intro w7 hb7 hg7; have HT7 := Lib.hid (show Blk w7 g 34 [.int .i64 4, .string (toS (((strL s).drop P).take (signN ((strL s).drop P)))), .int .i64 0, .int .i64 (P : Int)] from hb7); have HG7 := Lib.hid hg7; obtain ⟨z0, z1, z2, z3⟩ := tok_cells HT7.out; clear hb7 hg7; try go_frame) | (refine wpList_store_blk rfl none rfl _ (.tmp 2) (.tmp 52) rfl g 0 [.int .i64 4, .string (toS (((strL s).drop P).take (signN ((strL s).drop P)))), .int .i64 0, .int .i64 (P : Int)] rfl rfl _ _ HT7.out (by simp) sizeTok (by intro v hv; simp at hv; rcases hv with rfl | rfl | rfl | rfl <;> rfl) ?_; intro w9 hb9 hg9; rw [splice_all _ _ rfl] at hb9; have HT9 := Lib.hid hb9; have HG9 := Lib.hid hg9; clear hb9 hg9; try go_frame))
    (try simp only [Exit.inBlock, Exit.then])
    have r0 := HT9.out.cell 0
    have r1 := HT9.out.cell 1
    have r2 := HT9.out.cell 2
    have r3 := HT9.out.cell 3
    refine bodyPost_ret (v := .tuple #[.agg #[.int .i64 4, .string (toS (((strL s).drop P).take (signN ((strL s).drop P)))), .int .i64 0, .int .i64 (P : Int)], .nilIface]) ?_ rfl ?_
    · rw [results_cell_tmp rfl]; go_simp <;> rfl
    · rw [htok]
      refine .inr ⟨rfl, rfl, ?_, ?_⟩
      · exact grown_above (grown_above ((grownBy_of_below HB5.out (some b)).trans HG6.out) HG7.out HG1.out) HG9.out HG1.out
      · exact Blk.grown (Blk.grown (HS6.out) HG7.out (fun e => hgb (Option.some.inj e).symm)) HG9.out (fun e => hgb (Option.some.inj e).symm)
  · -- none
    subst hk
    have HC := Lib.hid (fault_any b s P 110 w5 HS5.out)
    have z0 := HT.out.cell 0
    have z1 := HT.out.cell 1
    have z2 := HT.out.cell 2
    have z3 := HT.out.cell 3
    simp only [List.getElem?_cons_zero, List.getElem?_cons_succ] at z0 z1 z2 z3
    go_wp2_with fail
    refine HC.out.mono ?_
    rintro e w6 ⟨⟨v, rfl, hv⟩, hb6⟩
    have HG6 := Lib.hid (grownBy_of_below hb6 (some b))
    have HT6 := Lib.hid (HT.out.below hb6 HT.out.lt)
    have HV := Lib.hid hv
    clear hb6 hv
    obtain ⟨z0, z1, z2, z3⟩ := tok_cells HT6.out
    go_wp2_with (first | (refine wpList_store_blk rfl none rfl _ (.tmp 2) (.tmp 52) rfl g 0 [.int .i64 0, .string ⟨#[]⟩, .int .i64 0, .int .i64 (P : Int)] rfl rfl _ _ HT6.out (by simp) sizeTok (by intro v hv; simp at hv; rcases hv with rfl | rfl | rfl | rfl <;> rfl) ?_; intro w9 hb9 hg9; rw [splice_all _ _ rfl] at hb9; have HT9 := Lib.hid hb9; have HG9 := Lib.hid hg9; clear hb9 hg9; try go_frame))
    (try simp only [Exit.inBlock, Exit.then])
    have r0 := HT9.out.cell 0
    have r1 := HT9.out.cell 1
    have r2 := HT9.out.cell 2
    have r3 := HT9.out.cell 3
    refine bodyPost_ret (v := .tuple #[.agg #[.int .i64 0, .string ⟨#[]⟩, .int .i64 0, .int .i64 (P : Int)], v]) ?_ rfl ?_
    · rw [results_cell_tmp rfl]; go_simp <;> rfl
    · rw [htok]
      refine .inl ⟨(by intro h; cases h), _, _, _, _, _, rfl, ?_, ?_⟩
      · exact AtE.low (AtE.grownG (HV.out) HG9.out HT.out.lt) HB5.out.size
      · exact grown_above ((grownBy_of_below HB5.out (some b)).trans HG6.out) HG9.out HG1.out
end Go.Proofs.YtljdnjidphmkjaaDoor
namespace Go.Proofs.YtljdnjidphmkjaaDoor
open Go Go.RowKit
theorem infoTok : (Tryd.prog.info? 34).map (fun i => (i.zero, i.size, i.bytes)) = some (some (.agg #[.int .i64 0, .string ByteArray.empty, .int .i64 0, .int .i64 0]), 4, 40) := by kernel_rfl
def flatT (ts : List TokM) : List Value := ts.flatMap cellsT
theorem flatT_snoc (ts : List TokM) (t : TokM) : flatT (ts ++ [t]) = flatT ts ++ cellsT t := by simp [flatT]
theorem flatT_at : ∀ (ts : List TokM) (i : Nat) (t : TokM), ts[i]? = some t → (flatT ts)[i * 4]? = some (.int .i64 t.kind) ∧ (flatT ts)[i * 4 + 1]? = some (.string t.text) ∧ (flatT ts)[i * 4 + 2]? = some (.int .i64 t.num) ∧ (flatT ts)[i * 4 + 3]? = some (.int .i64 t.pos)
  | [], i, t, h => by simp at h
  | t0 :: r, 0, t, h => by
    have h : t0 = t := by simpa using h
    subst h
    exact ⟨rfl, rfl, rfl, rfl⟩
  | t0 :: r, i + 1, t, h => by
    have h : r[i]? = some t := by simpa using h
    obtain ⟨h1, h2, h3, h4⟩ := flatT_at r i t h
    have e : ∀ k, (flatT (t0 :: r))[k + 4]? = (flatT r)[k]? := fun k => rfl
    rw [show (i + 1) * 4 = i * 4 + 4 by omega, show i * 4 + 4 + 1 = i * 4 + 1 + 4 by omega, show i * 4 + 4 + 2 = i * 4 + 2 + 4 by omega, show i * 4 + 4 + 3 = i * 4 + 3 + 4 by omega, e, e, e, e]
    exact ⟨h1, h2, h3, h4⟩
/-- Tokens one behind the other. -/
def ToksAt (w : World) (A : Option Addr) (ts : List TokM) : Prop := ts ≠ [] → ∃ b o, A = some ⟨b, o, none⟩ ∧ b < w.heap.size ∧ ∀ i t, ts[i]? = some t →
  w.cell? ⟨b, o + i * 4, none⟩ = some (.int .i64 t.kind) ∧ w.cell? ⟨b, o + i * 4 + 1, none⟩ = some (.string t.text) ∧ w.cell? ⟨b, o + i * 4 + 2, none⟩ = some (.int .i64 t.num) ∧ w.cell? ⟨b, o + i * 4 + 3, none⟩ = some (.int .i64 t.pos)
theorem ToksAt.nil (w : World) (A : Option Addr) : ToksAt w A [] := fun h => absurd rfl h
theorem ToksAt.below {w w' : World} {A : Option Addr} {ts : List TokM} (h : ToksAt w A ts) (hb : Below w.heap.size w w') : ToksAt w' A ts := fun hp => by
  obtain ⟨b, o, e, hlt, hc⟩ := h hp
  refine ⟨b, o, e, Nat.lt_of_lt_of_le hlt hb.size, fun i t hi => ?_⟩
  obtain ⟨h1, h2, h3, h4⟩ := hc i t hi
  exact ⟨(hb.cell (p := ⟨b, o + i * 4, none⟩) hlt).trans h1, (hb.cell (p := ⟨b, o + i * 4 + 1, none⟩) hlt).trans h2, (hb.cell (p := ⟨b, o + i * 4 + 2, none⟩) hlt).trans h3, (hb.cell (p := ⟨b, o + i * 4 + 3, none⟩) hlt).trans h4⟩
theorem ToksAt.at {w : World} {A : Option Addr} {ts : List TokM} (h : ToksAt w A ts) {i : Nat} (hi : i < ts.length) : ∃ b o, A = some ⟨b, o, none⟩ ∧ b < w.heap.size ∧ w.cell? ⟨b, o + i * 4, none⟩ = some (.int .i64 ts[i].kind) ∧ w.cell? ⟨b, o + i * 4 + 1, none⟩ = some (.string ts[i].text) ∧ w.cell? ⟨b, o + i * 4 + 2, none⟩ = some (.int .i64 ts[i].num) ∧ w.cell? ⟨b, o + i * 4 + 3, none⟩ = some (.int .i64 ts[i].pos) := by
  obtain ⟨b, o, e, hlt, hc⟩ := h (by intro h0; rw [h0] at hi; exact absurd hi (by simp))
  exact ⟨b, o, e, hlt, hc i _ (List.getElem?_eq_getElem hi)⟩
theorem own_toks {w : World} {base : Nat} {v : Value} {ts : List TokM} {n : Nat} (h : w.ownsRow base 34 4 v n (flatT ts)) (hn : ts.length = n) : ∃ A c, v = .slice A n c ∧ n ≤ c ∧ ToksAt w A ts := by
  rcases h.2 with ⟨rfl, h0⟩ | ⟨g, cap, cur, rfl, hg, hcell, hle, hm, _⟩
  · subst h0
    exact ⟨none, 0, rfl, Nat.le_refl _, fun hp => absurd (List.eq_nil_of_length_eq_zero hn) hp⟩
  · refine ⟨some ⟨g, 0, none⟩, cap, rfl, hle, fun _ => ⟨g, 0, rfl, (h.lt g rfl).2, fun i t hi => ?_⟩⟩
    obtain ⟨h1, h2, h3, h4⟩ := flatT_at ts i t hi
    have k1 := h.cells (g := g) rfl _ _ h1
    have k2 := h.cells (g := g) rfl _ _ h2
    have k3 := h.cells (g := g) rfl _ _ h3
    have k4 := h.cells (g := g) rfl _ _ h4
    rw [Addr.add_mid] at k1 k2 k3 k4
    exact ⟨by simpa using k1, by simpa [Nat.add_assoc] using k2, by simpa [Nat.add_assoc] using k3, by simpa [Nat.add_assoc] using k4⟩
/-- What an error tells: none; a number alone; a number and a place. -/
def ErrTells (n pos : Int) (w : World) (v : Value) (w' : World) : Prop :=
  (n = 0 ∧ pos = -1 ∧ v = .nilIface) ∨ (n ≠ 0 ∧ pos = -1 ∧ v = .iface 43 (.int .i64 n)) ∨ (n ≠ 0 ∧ 0 ≤ pos ∧ AtE pos n w v w')
/-- What Scan hands back. -/
def ScanTells (r : List TokM × Int × Int) (w : World) (e : Ending) (w' : World) : Prop :=
  ∃ A c v, e = .returned (.tuple #[.slice A r.1.length c, v]) ∧ r.1.length ≤ c ∧ ToksAt w' A r.1 ∧ ErrTells r.2.1 r.2.2 w v w' ∧ Below w.heap.size w w'
/-! ### Rounds -/
theorem gap_end {l : List Int} : l.drop (gapM false l) = [] ↔ l.length ≤ gapM false l := List.drop_eq_nil_iff
theorem tok_kind {l : List Int} (h : (tokL l).err = 0) : (tokL l).kind = 5 ↔ l = [] := by
  rcases kind_cases l with ⟨e, _, ht⟩ | ⟨hw, _, ht⟩ | ⟨hw, hk, ht⟩ | ⟨r, e, _, _, ht⟩ | ⟨r, e, _, _, ht⟩ | ⟨hl, hk, _, ht⟩ | ⟨hl, hk, _, ht⟩ | ⟨hl, hk, ht⟩ | ⟨hk, ht⟩
  · rw [ht]; exact ⟨fun _ => e, fun _ => rfl⟩
  · rw [ht] at h; cases h
  · rw [ht]; exact ⟨(fun h => by cases h), fun e => by rw [e] at hk; cases hk⟩
  · rw [ht]; exact ⟨(fun h => by cases h), fun e' => by rw [e'] at e; cases e⟩
  · rw [ht] at h; cases h
  · rw [ht] at h; cases h
  · rw [ht]; exact ⟨(fun h => by cases h), fun e => by rw [e] at hl; exact absurd rfl hl⟩
  · rw [ht]; exact ⟨(fun h => by cases h), fun e => by rw [e] at hl; exact absurd hl (by decide)⟩
  · rw [ht] at h; cases h
theorem scanF_err {f : Nat} {l : List Int} {p : Nat} {acc : List TokM} (h : (tokL (l.drop (gapM false l))).err ≠ 0) : scanF (f + 1) l p acc = ([], (tokL (l.drop (gapM false l))).err, ((p + gapM false l + (tokL (l.drop (gapM false l))).off : Nat) : Int)) := by
  rw [scanF, if_pos h]
theorem scanF_end {f : Nat} {l : List Int} {p : Nat} {acc : List TokM} (h : l.drop (gapM false l) = []) : scanF (f + 1) l p acc = (acc ++ [endT (p + gapM false l)], 0, -1) := by
  rw [scanF, h, if_neg (by simp [tokL]), if_pos (gap_end.1 h)]
theorem scanF_many {f : Nat} {l : List Int} {p : Nat} {acc : List TokM} (h : (tokL (l.drop (gapM false l))).err = 0) (h2 : l.drop (gapM false l) ≠ []) (h3 : acc.length = 512) : scanF (f + 1) l p acc = ([], 53, ((p + gapM false l : Nat) : Int)) := by
  rw [scanF, if_neg (by rw [h]; simp), if_neg (fun hq => h2 (gap_end.2 hq)), if_pos h3]
theorem scanF_go {f : Nat} {l : List Int} {p : Nat} {acc : List TokM} (h : (tokL (l.drop (gapM false l))).err = 0) (h2 : l.drop (gapM false l) ≠ []) (h3 : acc.length ≠ 512) :
    scanF (f + 1) l p acc = scanF f (l.drop (gapM false l + (tokL (l.drop (gapM false l))).size)) (p + (gapM false l + (tokL (l.drop (gapM false l))).size)) (acc ++ [madeT (tokL (l.drop (gapM false l))) (p + gapM false l)]) := by
  rw [scanF, if_neg (by rw [h]; simp), if_neg (fun hq => h2 (gap_end.2 hq)), if_neg h3]
theorem tok_size {l : List Int} (h : (tokL l).err = 0) (h2 : l ≠ []) : 1 ≤ (tokL l).size ∧ (tokL l).size ≤ l.length := by
  cases l with
  | nil => exact absurd rfl h2
  | cons c r => exact tokL_size h
end Go.Proofs.YtljdnjidphmkjaaDoor
namespace Go.Proofs.YtljdnjidphmkjaaDoor
open Go Go.RowKit
/-- What an owned row grows into lies above. -/
theorem own_geB {w : World} {base e size n B : Nat} {v : Value} {xs : List Value} (h : w.ownsRow base e size v n xs) (hB : B ≤ base) : ∀ k, v.ownBlock = some k → B ≤ k := fun k hk => Nat.le_trans hB (own_ge h k hk)
set_option maxRecDepth 100000 in
set_option maxHeartbeats 1000000 in
theorem scan_long (s : ByteArray) (w : World) (h : 2048 < s.size) :
    Calls Tryd.prog 8 #[.string s] w (ScanTells (scanL (strL s)) w) := by
  have HR : Hid (scanL (strL s) = ([], 2, -1)) := Lib.hid (by rw [scanL, if_pos (by rw [length_strL]; exact h)])
  have hf : (2048 : Int) < (s.size : Int) := by omega
  rw [HR.out]
  go_enter Tryd.func8, Tryd.ntmps8
  go_wp2
  go_ret2
  exact ⟨none, 0, _, rfl, Nat.le_refl _, ToksAt.nil _ _, .inr (.inl ⟨by decide, rfl, rfl⟩), Below.refl _ _⟩
set_option maxRecDepth 100000 in
set_option maxHeartbeats 8000000 in
theorem scan_short (s : ByteArray) (w : World) (hm : Marks w) (hM : MaxL w) (h : ¬ 2048 < s.size) :
    Calls Tryd.prog 8 #[.string s] w (ScanTells (scanL (strL s)) w) := by
  obtain ⟨R, hR⟩ : ∃ R, R = scanL (strL s) := ⟨_, rfl⟩
  have HR0 : Hid (R = scanF (s.size + 1) (strL s) 0 []) := Lib.hid (by rw [hR, scanL, if_neg (by rw [length_strL]; exact h), length_strL])
  rw [← hR]
  have hf : ¬ (2048 : Int) < (s.size : Int) := by omega
  have HMM := Lib.hid (And.intro hm hM)
  have hs2 : s.size ≤ 2048 := by omega
  obtain ⟨i0, hi0, hz0, hz1, hz2⟩ := info_parts infoTok
  clear hm hM h hR
  go_enter Tryd.func8, Tryd.ntmps8
  go_wp2_with fail
  go_loopw [4] (fun lv wr => ∃ (p n f : Nat) (acc : List TokM), acc.length = n ∧ n ≤ 512 ∧ p ≤ s.size ∧ Hid (R = scanF f ((strL s).drop p) p acc ∧ ((strL s).drop p).length < f) ∧ ScAt wr w.heap.size s p ∧ wr.ownsRow (w.heap.size + 1) 34 4 lv n (flatT acc) ∧ Below w.heap.size w wr) (fun _ wr => s.size - posS wr w.heap.size)
  case atStart =>
    refine ⟨0, 0, s.size + 1, [], rfl, by omega, by omega, Lib.hid ⟨by rw [List.drop_zero]; exact HR0.out, by rw [List.drop_zero, length_strL]; omega⟩, ?_, World.ownsRow_nil _ _ _ _, ?_⟩
    · exact heap_alloc_new w _
    · exact belowAlloc _ _
  case round =>
    obtain ⟨p, n, f, acc, hn, hn5, hp, HRUN, hsc, hown, hbel⟩ := hrel
    obtain ⟨A, c, rfl, hnc, htoks⟩ := own_toks hown hn
    have HSC := Lib.hid hsc
    have HOW := Lib.hid hown
    have HBE := Lib.hid hbel
    have HN := Lib.hid hn
    have hpos : posS wr w.heap.size = p := ScAt.posS hsc
    have hmr : MaxL wr := HMM.out.2.below hbel
    have HGA := Lib.hid (gap_any w.heap.size s p wr hmr hsc hp (by omega))
    have hgl := gapM_le false ((strL s).drop p)
    rw [List.length_drop, length_strL] at hgl
    obtain ⟨f', hf'⟩ : ∃ f', f = f' + 1 := ⟨f - 1, by have := HRUN.out.2; omega⟩
    rw [hf'] at HRUN
    have HLF := Lib.hid HRUN.out.2
    have HRN := Lib.hid HRUN.out.1
    obtain ⟨T, hT⟩ : ∃ T, T = tokL (((strL s).drop p).drop (gapM false ((strL s).drop p))) := ⟨_, rfl⟩
    have HTE := Lib.hid (fun (h : T.err ≠ 0) => HRN.out.trans (scanF_err (by rw [← hT]; exact h)))
    have HTN := Lib.hid (fun (h : ((strL s).drop p).drop (gapM false ((strL s).drop p)) = []) => HRN.out.trans (scanF_end h))
    have HTM := Lib.hid (fun (h : T.err = 0) h2 h3 => HRN.out.trans (scanF_many (by rw [← hT]; exact h) h2 h3))
    have HTG := Lib.hid (fun (h : T.err = 0) h2 h3 => HRN.out.trans (scanF_go (by rw [← hT]; exact h) h2 h3))
    have HTK := Lib.hid (fun (h : T.err = 0) => (hT ▸ tok_kind (by rw [← hT]; exact h) : T.kind = 5 ↔ _))
    have HTS := Lib.hid (fun (h : T.err = 0) h2 => (hT ▸ tok_size (by rw [← hT]; exact h) h2 : 1 ≤ T.size ∧ T.size ≤ _))
    have HTZ := Lib.hid (fun (h : ((strL s).drop p).drop (gapM false ((strL s).drop p)) = []) => show T.text = [] ∧ T.num = 0 by rw [hT, h]; exact ⟨rfl, rfl⟩)
    rw [← hT] at HTE HTG
    have HTO := Lib.hid (fun (W : World) (hW : Marks W) (hS : ScAt W w.heap.size s (p + gapM false ((strL s).drop p))) => token_any w.heap.size s (p + gapM false ((strL s).drop p)) W hW hS (by omega) (by omega))
    rw [← List.drop_drop, ← hT] at HTO
    obtain ⟨g, hg⟩ : ∃ g, g = gapM false ((strL s).drop p) := ⟨_, rfl⟩
    rw [← hg] at HGA hgl HTE HTN HTM HTG HTK HTS HTO HTZ
    clear hsc hown hbel hn htoks hT hg HRUN hf' HRN
    go_wp2_with fail
    refine HGA.out.mono ?_
    rintro e w1 ⟨rfl, hg1, hs1⟩
    have HS1 := Lib.hid hs1
    have HB1 := Lib.hid (HBE.out.grown hg1 HBE.out.size (by intro k hk; injection hk with hk; omega))
    have HOW1 := Lib.hid (HOW.out.kept hg1 (.inr (fun e => by have := (HOW.out.lt _ e).1; omega)))
    clear hg1 hs1
    go_wp2_with fail
    refine (HTO.out w1 (HMM.out.1.below HB1.out) HS1.out).mono ?_
    rintro e w2 (⟨he, k2, s2, n2, p2, v, rfl, hv, hg2⟩ | ⟨he, rfl, hg2, hs2'⟩)
    · have HB2 := Lib.hid (HB1.out.grown hg2 HB1.out.size (by intro k hk; injection hk with hk; omega))
      have HV := Lib.hid (AtE.low (w := w) hv HB1.out.size)
      obtain ⟨ab, rfl, _, _, _⟩ := hv
      have HR := Lib.hid (HTE.out he)
      have HE := Lib.hid he
      clear hg2 he HTO HTE HTN HTM HTG HTK HTS
      have HB24 := Lib.hid (belowAlloc w2 (.cells #[.int .i64 k2, .string s2, .int .i64 n2, .int .i64 p2] 34))
      go_wp2_with fail
      go_ret2
      rw [HR.out]
      exact ⟨none, 0, _, rfl, Nat.le_refl _, ToksAt.nil _ _, .inr (.inr ⟨HE.out, by show (0 : Int) ≤ ((p + g + T.off : Nat) : Int); omega, AtE.below HV.out HB24.out⟩), HB2.out.trans (HB24.out.mono HB2.out.size)⟩
    · have HB2 := Lib.hid (HB1.out.grown hg2 HB1.out.size (by intro k hk; injection hk with hk; omega))
      have HOW2 := Lib.hid (HOW1.out.kept hg2 (.inr (fun e => by have := (HOW1.out.lt _ e).1; omega)))
      have HS2 := Lib.hid hs2'
      have HK5 := Lib.hid (HTK.out he)
      have HTS2 := Lib.hid (HTS.out he)
      have HTM2 := Lib.hid (HTM.out he)
      have HTG2 := Lib.hid (HTG.out he)
      have HSZ2 : Hid (w.heap.size + 1 ≤ w2.heap.size) := Lib.hid (by have := HS2.out.lt; omega)
      have HZ2 := Lib.hid (HTZ.out)
      obtain ⟨K, hK⟩ : ∃ K, K = T.kind := ⟨_, rfl⟩
      obtain ⟨X, hX⟩ : ∃ X, X = toS T.text := ⟨_, rfl⟩
      obtain ⟨N, hN⟩ : ∃ N, N = T.num := ⟨_, rfl⟩
      obtain ⟨Q, hQ⟩ : ∃ Q : Int, Q = ((p + g : Nat) : Int) := ⟨_, rfl⟩
      rw [← hK, ← hX, ← hN, ← hQ]
      rw [← hK] at HK5
      have HMD : Hid (madeT T (p + g) = ⟨K, X, N, Q⟩) := Lib.hid (by rw [hK, hX, hN, hQ]; rfl)
      have HQ := Lib.hid hQ
      have HXN := Lib.hid (And.intro hX hN)
      clear hg2 hs2' he HTO HTE HTM HTG HTK HTS HTZ hK hX hN hQ
      by_cases h5 : K = 5
      · have hnil := HK5.out.1 h5
        have HR := Lib.hid (HTN.out hnil)
        have e5 : (K == 5) = true := by rw [h5]; rfl
        have HCE : Hid (cellsT (endT (p + g)) = [.int .i64 K, .string X, .int .i64 N, .int .i64 Q]) := Lib.hid (by
          obtain ⟨z1, z2⟩ := HZ2.out hnil
          rw [HXN.out.1, HXN.out.2, z1, z2, HQ.out, h5]; rfl)
        clear HTN HTM2 HTG2 HTS2 hnil h5
        go_wp2_with (at_builtin; refine wpList_append_own _ rfl _ _ 23 rfl (w.heap.size + 1) 34 i0 (.agg #[.int .i64 0, .string ByteArray.empty, .int .i64 0, .int .i64 0]) 4 40 Tryd.underlying23 hi0 hz0 hz1 hz2 rfl (by decide) _ n _ rfl ((HOW2.out.alloc _).alloc _) ⟨w2.heap.size + 1, 0, none⟩ 1 1 [.int .i64 K, .string X, .int .i64 N, .int .i64 Q] rfl rfl ?c1 ?c2 ?c3 ?c4 ?c5 ?_)
        case c1 =>
          intro i u hi
          match i, hi with
          | 0, hi => simp at hi; subst hi; simp [Addr.add]
          | 1, hi => simp at hi; subst hi; simp [Addr.add]
          | 2, hi => simp at hi; subst hi; simp [Addr.add]
          | 3, hi => simp at hi; subst hi; simp [Addr.add]
        case c2 => intro u hu; simp at hu; rcases hu with rfl | rfl | rfl | rfl <;> rfl
        case c3 => unfold maxLen; omega
        case c4 => omega
        case c5 => have := HSZ2.out; simp; omega
        intro v' w5 hown' hgr5 _
        have HO5 := Lib.hid hown'
        have HB25 := Lib.hid (show Below w.heap.size w w5 from ((HB2.out.alloc HB2.out.size _).alloc (by have := HB2.out.size; simp; omega) _).grown hgr5 (by have := HB2.out.size; simp; omega) (own_geB HOW2.out (by omega)))
        clear hown' hgr5
        obtain ⟨A', c', rfl, hnc', htk⟩ := own_toks (ts := acc ++ [endT (p + g)]) (n := n + 1) (by rw [flatT_snoc, HCE.out]; exact HO5.out) (by rw [List.length_append, HN.out]; rfl)
        have HTK' := Lib.hid htk
        clear htk
        go_wp2_with fail
        go_ret2
        rw [HR.out]
        have hl : (acc ++ [endT (p + g)]).length = n + 1 := by rw [List.length_append, HN.out]; rfl
        exact ⟨A', c', .nilIface, by rw [hl]; rfl, by rw [hl]; exact hnc', HTK'.out, .inl ⟨rfl, rfl, rfl⟩, HB25.out⟩
      · have e5 : (K == 5) = false := by rw [beq_eq_false_iff_ne]; exact h5
        have hnil := fun h => h5 (HK5.out.2 h)
        obtain ⟨t1, t2⟩ := HTS2.out hnil
        rw [List.length_drop, List.length_drop, length_strL] at t2
        by_cases h512 : n = 512
        · have HR := Lib.hid (HTM2.out hnil (by rw [HN.out]; exact h512))
          have e6 : ((n : Int) == 512) = true := by rw [h512]; rfl
          have HAT := Lib.hid (fun W : World => atN_any Q 53 W)
          clear HTN HTM2 HTG2 HTS2 hnil h5 h512
          go_wp2_with fail
          refine (HAT.out _).mono ?_
          rintro e w5 ⟨⟨v, rfl, hv⟩, hb5⟩
          have HV := Lib.hid (AtE.low (w := w) hv (by have := HB2.out.size; simp; omega))
          have HB5 := Lib.hid ((HB2.out.alloc HB2.out.size (.cells #[.int .i64 K, .string X, .int .i64 N, .int .i64 Q] 34)).trans (hb5.mono (by have := HB2.out.size; simp; omega)))
          clear hv hb5
          go_wp2_with fail
          go_ret2
          rw [HR.out]
          exact ⟨none, 0, _, rfl, Nat.le_refl _, ToksAt.nil _ _, .inr (.inr ⟨by show (53 : Int) ≠ 0; decide, by show (0 : Int) ≤ ((p + g : Nat) : Int); omega, by rw [← HQ.out]; exact HV.out⟩), HB5.out⟩
        · have HR := Lib.hid (HTG2.out hnil (by rw [HN.out]; exact h512))
          have e6 : ((n : Int) == 512) = false := by rw [beq_eq_false_iff_ne]; omega
          have hn511 : n ≤ 511 := by omega
          have HT12 := Lib.hid (And.intro t1 t2)
          clear HTN HTM2 HTG2 HTS2 hnil h5 h512
          go_wp2_with (at_builtin; refine wpList_append_own _ rfl _ _ 23 rfl (w.heap.size + 1) 34 i0 (.agg #[.int .i64 0, .string ByteArray.empty, .int .i64 0, .int .i64 0]) 4 40 Tryd.underlying23 hi0 hz0 hz1 hz2 rfl (by decide) _ n _ rfl ((HOW2.out.alloc _).alloc _) ⟨w2.heap.size + 1, 0, none⟩ 1 1 [.int .i64 K, .string X, .int .i64 N, .int .i64 Q] rfl rfl ?c1 ?c2 ?c3 ?c4 ?c5 ?_)
          case c1 =>
            intro i u hi
            match i, hi with
            | 0, hi => simp at hi; subst hi; simp [Addr.add]
            | 1, hi => simp at hi; subst hi; simp [Addr.add]
            | 2, hi => simp at hi; subst hi; simp [Addr.add]
            | 3, hi => simp at hi; subst hi; simp [Addr.add]
          case c2 => intro u hu; simp at hu; rcases hu with rfl | rfl | rfl | rfl <;> rfl
          case c3 => unfold maxLen; omega
          case c4 => omega
          case c5 => have := HSZ2.out; simp; omega
          intro v' w5 hown' hgr5 _
          have HO5 := Lib.hid hown'
          have HB25 := Lib.hid (show Below w.heap.size w w5 from ((HB2.out.alloc HB2.out.size _).alloc (by have := HB2.out.size; simp; omega) _).grown hgr5 (by have := HB2.out.size; simp; omega) (own_geB HOW2.out (by omega)))
          have HF := Lib.hid (show w5.ownsRow (w.heap.size + 1) 34 4 v' (n + 1) (flatT (acc ++ [madeT T (p + g)])) by rw [flatT_snoc, HMD.out]; exact HO5.out)
          have HS5 := Lib.hid (show ScAt w5 w.heap.size s (p + g + T.size) from Blk.grown (Blk.grownN (Blk.grownN HS2.out (World.grownBy_alloc _ _ none)) (World.grownBy_alloc _ _ none)) hgr5 (fun e => by have := own_geB HOW2.out (Nat.le_refl _) _ e.symm; omega))
          clear hown' hgr5
          go_wp2_with fail
          go_roundw
          case rel =>
            have hl : (acc ++ [madeT T (p + g)]).length = n + 1 := by rw [List.length_append, HN.out]; rfl
            refine ⟨p + g + T.size, n + 1, f', acc ++ [madeT T (p + g)], hl, by omega, by have := HT12.out; omega, Lib.hid ⟨?_, ?_⟩, HS5.out, HF.out, HB25.out⟩
            · rw [HR.out, List.drop_drop, Nat.add_assoc]
            · have h1 := HLF.out
              have h2 := HT12.out
              rw [List.length_drop, length_strL] at h1 ⊢
              omega
          case measure => rw [hpos, ScAt.posS HS5.out]; have := HT12.out; omega
end Go.Proofs.YtljdnjidphmkjaaDoor
namespace Go.Proofs.YtljdnjidphmkjaaDoor
open Go Go.RowKit
def exS : ByteArray := ⟨#[112, 101, 114, 109, 105, 116, 32, 119, 104, 101, 110, 32, 116, 105, 109, 101, 32, 60, 61, 32, 45, 55, 59, 32, 35, 32, 120]⟩
def exT : List TokM := [⟨1, ⟨#[112, 101, 114, 109, 105, 116]⟩, 0, 0⟩, ⟨1, ⟨#[119, 104, 101, 110]⟩, 0, 7⟩, ⟨1, ⟨#[116, 105, 109, 101]⟩, 0, 12⟩, ⟨4, ⟨#[60, 61]⟩, 0, 17⟩, ⟨3, ⟨#[]⟩, -7, 20⟩, ⟨4, ⟨#[59]⟩, 0, 22⟩, ⟨5, ⟨#[]⟩, 0, 27⟩]
theorem exScan : scanL (strL exS) = (exT, 0, -1) := by kernel_rfl
set_option maxRecDepth 100000 in
set_option maxHeartbeats 4000000 in
theorem alive11_any (w : World) (hm : Marks w) (hM : MaxL w) : Calls Tryd.prog 7 #[] w fun e w' => e = .returned (.bool true) ∧ Below w.heap.size w w' := by
  have HS := Lib.hid ((scan_short exS w hm hM (by decide)).mono (R' := fun e w' => ∃ b o c, e = .returned (.tuple #[.slice (some ⟨b, o, none⟩) 7 c, .nilIface]) ∧ 7 ≤ c ∧ Below w.heap.size w w' ∧ w'.cell? ⟨b, o + 1, none⟩ = some (.string ⟨#[112, 101, 114, 109, 105, 116]⟩) ∧ w'.cell? ⟨b, o + 7, none⟩ = some (.int .i64 7) ∧ w'.cell? ⟨b, o + 13, none⟩ = some (.string ⟨#[60, 61]⟩) ∧ w'.cell? ⟨b, o + 18, none⟩ = some (.int .i64 (-7)) ∧ w'.cell? ⟨b, o + 24, none⟩ = some (.int .i64 5)) (by
    rintro e w' ⟨A, c, v, rfl, hc, ht, he, hb⟩
    rw [exScan] at hc ht he ⊢
    obtain ⟨b, o, rfl, _, hx⟩ := ht (by decide)
    have hv : v = .nilIface := by
      rcases he with ⟨_, _, h⟩ | ⟨h, _⟩ | ⟨h, _⟩
      · exact h
      · exact absurd rfl h
      · exact absurd rfl h
    subst hv
    exact ⟨b, o, c, rfl, hc, hb, (hx 0 _ rfl).2.1, (hx 1 _ rfl).2.2.2, (hx 3 _ rfl).2.1, (hx 4 _ rfl).2.2.1, (hx 6 _ rfl).1⟩))
  unfold exS at HS
  clear hm hM
  go_enter Tryd.func7, Tryd.ntmps7
  go_wp2_with fail
  refine HS.out.mono ?_
  rintro e w1 ⟨b, o, c, rfl, hc, hb, x0, x1, x3, x4, x6⟩
  have HB := Lib.hid hb
  have hc1 : (7 : Int) ≤ (c : Int) := by omega
  clear hb
  go_wp2_with fail
  go_ret
  exact ⟨rfl, HB.out⟩
end Go.Proofs.YtljdnjidphmkjaaDoor
namespace Go.Proofs.YtljdnjidphmkjaaDoor
open Go Go.RowKit
abbrev tokV (k : Int) (s : ByteArray) (n p : Int) : Value := .agg #[.int .i64 k, .string s, .int .i64 n, .int .i64 p]
theorem spell_word (s : ByteArray) (n p : Int) : toS (spellN ⟨1, s, n, p⟩) = if isWordB s then s else ⟨#[]⟩ := by
  have e : spellN ⟨1, s, n, p⟩ = if wordN (strL s) = s.size ∧ s.size ≤ 32 then strL s else [] := rfl
  rw [e]
  by_cases h : wordN (strL s) = s.size ∧ s.size ≤ 32
  · rw [if_pos h, toS_strL]
    by_cases h0 : s.size = 0
    · rw [str_nil h0]; rfl
    · rw [if_pos (show isWordB s = true from decide_eq_true ⟨h0, h.2, h.1⟩)]
  · rw [if_neg h, if_neg (show ¬ isWordB s = true from fun hq => h (by have := of_decide_eq_true hq; exact ⟨this.2.2, this.2.1⟩))]; rfl
theorem spell_sign (s : ByteArray) (n p : Int) : toS (spellN ⟨4, s, n, p⟩) = if isSignB s then s else ⟨#[]⟩ := by
  have e : spellN ⟨4, s, n, p⟩ = if signN (strL s) = s.size then strL s else [] := rfl
  rw [e]
  by_cases h : signN (strL s) = s.size
  · rw [if_pos h, toS_strL]
    by_cases h0 : s.size = 0
    · rw [str_nil h0]; rfl
    · rw [if_pos (show isSignB s = true from decide_eq_true ⟨h0, h⟩)]
  · rw [if_neg h, if_neg (show ¬ isSignB s = true from fun hq => h (of_decide_eq_true hq).2)]; rfl
theorem spell_text (s : ByteArray) (n p : Int) : spellN ⟨2, s, n, p⟩ = (quoteN (strL s)).1 := rfl
theorem spell_num (s : ByteArray) (n p : Int) : spellN ⟨3, s, n, p⟩ = if -9007199254740991 ≤ n ∧ n ≤ 9007199254740991 then prL n else [] := rfl
theorem spellT_none {k : Int} (s : ByteArray) (n p : Int) (h1 : k ≠ 1) (h2 : k ≠ 2) (h3 : k ≠ 3) (h4 : k ≠ 4) : spellN ⟨k, s, n, p⟩ = [] := by
  unfold spellN
  rw [if_neg h1, if_neg h2, if_neg h3, if_neg h4]
theorem num_cases (n : Int) : (-9007199254740991 ≤ n ∧ n ≤ 9007199254740991) ∨ (¬ -9007199254740991 ≤ n) ∨ (-9007199254740991 ≤ n ∧ ¬ n ≤ 9007199254740991) := by omega
set_option maxRecDepth 100000 in
set_option maxHeartbeats 4000000 in
theorem lexSpell_any (k n p : Int) (s : ByteArray) (w : World) (hm : Marks w) (hs : s.size ≤ 1000000000) (hn : -9223372036854775808 ≤ n ∧ n ≤ 9223372036854775807) :
    Calls Tryd.prog 13 #[tokV k s n p] w fun e w' => e = .returned (.string (toS (spellN ⟨k, s, n, p⟩))) ∧ Below w.heap.size w w' := by
  obtain ⟨W1, hW1⟩ : ∃ W1, W1 = w.alloc (.cells #[.int .i64 k, .string s, .int .i64 n, .int .i64 p] 34) := ⟨_, rfl⟩
  have HB1 : Hid (Below w.heap.size w W1) := Lib.hid (by rw [hW1]; exact belowAlloc _ _)
  have HM1 := Lib.hid (hm.below HB1.out)
  have HC := Lib.hid (fun W : World => cloneL_any s W (by omega))
  by_cases h1 : k = 1
  · subst h1
    rw [spell_word]
    have HI := Lib.hid (fun W : World => isWord_any s W (by omega))
    cases hb : isWordB s with
    | true =>
      rw [hb] at HI
      rw [if_pos rfl]
      clear hb hW1 HB1 HM1 hm
      go_enter Tryd.func13, Tryd.ntmps13
      go_wp2_with fail
      refine (HI.out _).mono ?_
      rintro e w2 ⟨rfl, rfl⟩
      go_wp2_with fail
      refine (HC.out _).mono ?_
      rintro e w2 ⟨rfl, hb2⟩
      have HB2 := Lib.hid ((belowAlloc w _).trans (hb2.mono (belowAlloc w _).size))
      clear hb2
      go_wp2_with fail
      go_ret
      exact ⟨rfl, HB2.out⟩
    | false =>
      rw [hb] at HI
      rw [if_neg (by decide)]
      clear hb hW1 HB1 HM1 hm
      go_enter Tryd.func13, Tryd.ntmps13
      go_wp2_with fail
      refine (HI.out _).mono ?_
      rintro e w2 ⟨rfl, rfl⟩
      go_wp2_with fail
      go_ret
      exact ⟨rfl, belowAlloc w _⟩
  · have e1 : (k == 1) = false := by rw [beq_eq_false_iff_ne]; exact h1
    by_cases h2 : k = 2
    · subst h2
      rw [spell_text]
      have HQ := Lib.hid (fun (W : World) (hW : Marks W) => quoteB_any s W hW (by omega))
      have HM2 := Lib.hid (hm.below (belowAlloc w (.cells #[.int .i64 2, .string s, .int .i64 n, .int .i64 p] 34)))
      obtain ⟨U, hU⟩ : ∃ U, U = toS (quoteN (strL s)).1 := ⟨_, rfl⟩
      obtain ⟨u, hu⟩ : ∃ u, u = (quoteN (strL s)).2 := ⟨_, rfl⟩
      rw [← hU, ← hu] at HQ
      rw [← hU]
      clear h1 e1 hW1 HB1 HM1 hm hU hu
      go_enter Tryd.func13, Tryd.ntmps13
      go_wp2_with fail
      refine (HQ.out _ HM2.out).mono ?_
      rintro e w2 ⟨rfl, hb2⟩
      have HB2 := Lib.hid ((belowAlloc w _).trans (hb2.mono (belowAlloc w _).size))
      clear hb2
      go_wp2_with fail
      go_ret
      exact ⟨rfl, HB2.out⟩
    · have e2 : (k == 2) = false := by rw [beq_eq_false_iff_ne]; exact h2
      by_cases h3 : k = 3
      · subst h3
        rw [spell_num]
        have HP := Lib.hid (fun W : World => print_any n W hn.1 hn.2)
        rcases num_cases n with ⟨b1, b2⟩ | b1 | ⟨b1, b2⟩
        · rw [if_pos ⟨b1, b2⟩]
          clear h1 h2 e1 e2 hW1 HB1 HM1 hm
          go_enter Tryd.func13, Tryd.ntmps13
          go_wp2_with fail
          refine (HP.out _).mono ?_
          rintro e w2 ⟨rfl, hb2⟩
          have HB2 := Lib.hid ((belowAlloc w _).trans (hb2.mono (belowAlloc w _).size))
          clear hb2
          go_wp2_with fail
          go_ret
          exact ⟨rfl, HB2.out⟩
        · rw [if_neg (fun h => b1 h.1)]
          clear h1 h2 e1 e2 hW1 HB1 HM1 hm
          go_enter Tryd.func13, Tryd.ntmps13
          go_wp2_with fail
          go_ret
          exact ⟨rfl, belowAlloc w _⟩
        · rw [if_neg (fun h => b2 h.2)]
          clear h1 h2 e1 e2 hW1 HB1 HM1 hm
          go_enter Tryd.func13, Tryd.ntmps13
          go_wp2_with fail
          go_ret
          exact ⟨rfl, belowAlloc w _⟩
      · have e3 : (k == 3) = false := by rw [beq_eq_false_iff_ne]; exact h3
        by_cases h4 : k = 4
        · subst h4
          rw [spell_sign]
          have HI := Lib.hid (fun W : World => isSign_any s W)
          cases hb : isSignB s with
          | true =>
            rw [hb] at HI
            rw [if_pos rfl]
            clear hb h1 h2 h3 e1 e2 e3 hW1 HB1 HM1 hm
            go_enter Tryd.func13, Tryd.ntmps13
            go_wp2_with fail
            refine (HI.out _).mono ?_
            rintro e w2 ⟨rfl, rfl⟩
            go_wp2_with fail
            refine (HC.out _).mono ?_
            rintro e w2 ⟨rfl, hb2⟩
            have HB2 := Lib.hid ((belowAlloc w _).trans (hb2.mono (belowAlloc w _).size))
            clear hb2
            go_wp2_with fail
            go_ret
            exact ⟨rfl, HB2.out⟩
          | false =>
            rw [hb] at HI
            rw [if_neg (by decide)]
            clear hb h1 h2 h3 e1 e2 e3 hW1 HB1 HM1 hm
            go_enter Tryd.func13, Tryd.ntmps13
            go_wp2_with fail
            refine (HI.out _).mono ?_
            rintro e w2 ⟨rfl, rfl⟩
            go_wp2_with fail
            go_ret
            exact ⟨rfl, belowAlloc w _⟩
        · have e4 : (k == 4) = false := by rw [beq_eq_false_iff_ne]; exact h4
          rw [spellT_none s n p h1 h2 h3 h4]
          clear h1 h2 h3 h4 hW1 HB1 HM1 hm
          go_enter Tryd.func13, Tryd.ntmps13
          go_wp2_with fail
          go_ret
          exact ⟨rfl, belowAlloc w _⟩
/-! ### The reference's -/
end Go.Proofs.YtljdnjidphmkjaaDoor
namespace Go.Proofs.YtljdnjidphmkjaaDoor
open Go Go.RowKit
def strVs (xs : List (List Int)) : List Value := xs.map fun x => .string (toS x)
theorem strVs_snoc (xs : List (List Int)) (x : List Int) : strVs (xs ++ [x]) = strVs xs ++ [.string (toS x)] := by simp [strVs]
theorem infoStr : (Tryd.prog.info? 9).map (fun i => (i.zero, i.size, i.bytes)) = some (some (.string ByteArray.empty), 1, 16) := by kernel_rfl
theorem strL_arr (l : List UInt8) : strL ⟨l.toArray⟩ = l.map fun b => (b.toNat : Int) := by simp [strL]
theorem join_glue (xs : List (List Int)) (hb : ∀ x ∈ xs, Bytes x) : (⟨(Lib.join ((xs.map toS).map (·.data.toList)) [32]).toArray⟩ : ByteArray) = toS (glue xs) := by
  apply strL_inj
  rw [strL_toS (glue_bytes hb), strL_arr]
  have key : ∀ xs : List (List Int), (∀ x ∈ xs, Bytes x) → (Lib.join ((xs.map toS).map (·.data.toList)) [32]).map (fun b : UInt8 => (b.toNat : Int)) = glue xs := by
    intro xs
    induction xs with
    | nil => intro _; rfl
    | cons x r ih =>
      intro hb
      have e1 : (toS x).data.toList.map (fun b : UInt8 => (b.toNat : Int)) = x := strL_toS (hb x (by simp))
      cases r with
      | nil =>
        simp only [List.map_cons, List.map_nil, Lib.join_one]
        exact e1
      | cons y r =>
        rw [glue, ← ih (fun z hz => hb z (List.mem_cons_of_mem _ hz))]
        conv => rhs; rw [← e1]
        simp only [Lib.join, List.map_cons, List.intercalate, List.intersperse_cons_cons, List.flatten_cons, List.map_append, List.map_nil]
        rfl
  exact key xs hb
/-- strings.Join of an owned row of texts. -/
theorem join_own {base m : Nat} {v : Value} (xs : List (List Int)) (W : World) (hm : xs.length = m) (hb : ∀ x ∈ xs, Bytes x) (hl : (glue xs).length ≤ 140737488355328) (hm2 : m ≤ 1000000) (hv : W.ownsRow base 9 1 v m (strVs xs)) :
    ∃ A c, v = .slice A m c ∧ Calls Tryd.prog 38 #[.slice A m c, .string ⟨#[32]⟩] W fun e w' => e = .returned (.string (toS (glue xs))) ∧ Below W.heap.size W w' := by
  have hlen : (xs.map toS).length = m := by rw [List.length_map, hm]
  have hjn := join_glue xs hb
  rcases hv.2 with ⟨rfl, h0⟩ | ⟨g, cap, cur, rfl, hg, hcell, hle, hmx, _⟩
  · subst h0
    refine ⟨none, 0, rfl, (Tryd.strings_Join_none none 0 ⟨#[32]⟩ W).mono ?_⟩
    rintro e w' ⟨rfl, rfl⟩
    have hp : xs = [] := List.eq_nil_of_length_eq_zero hm
    subst hp
    exact ⟨rfl, Below.refl _ _⟩
  · refine ⟨_, _, rfl, ?_⟩
    have hc := Tryd.strings_Join g 0 cap (xs.map toS) ⟨#[32]⟩ W (fun i t hi => by
        have h1 := hv.cells (g := g) rfl i (.string t) (by
          rw [List.getElem?_map] at hi
          rw [strVs, List.getElem?_map]
          cases hx : xs[i]? with
          | none => rw [hx] at hi; cases hi
          | some x => rw [hx] at hi; simp at hi; subst hi; rfl)
        rwa [Addr.add_mid] at h1) (hv.lt g rfl).2 (by rw [hlen]; omega) (by rw [hlen]; exact hle) (by
        have := congrArg ByteArray.size hjn
        rw [size_toS] at this
        have e : (⟨(Lib.join (List.map (fun x => x.data.toList) (xs.map toS)) [32]).toArray⟩ : ByteArray).size = (Lib.join (List.map (fun x => x.data.toList) (xs.map toS)) [32]).length := by simp [ByteArray.size]
        show (Lib.join _ [32]).length ≤ _
        omega)
    rw [hlen] at hc
    refine hc.mono ?_
    rintro e w' ⟨rfl, hb⟩
    exact ⟨by rw [← hjn], hb⟩
theorem textsN_len (ts : List TokM) : (textsN ts).length ≤ ts.length := by
  unfold textsN
  refine Nat.le_trans (List.length_filter_le _ _) ?_
  rw [List.length_map]; exact Nat.le_refl _
theorem sum_len : ∀ (xs : List (List Int)) (B : Nat), (∀ x ∈ xs, x.length ≤ B) → (xs.map fun x => x.length + 1).sum ≤ xs.length * (B + 1)
  | [], B, _ => by simp
  | x :: r, B, h => by
    have h1 := h x (by simp)
    have h2 := sum_len r B (fun y hy => h y (List.mem_cons_of_mem _ hy))
    rw [List.map_cons, List.sum_cons, List.length_cons, Nat.succ_mul]; omega
/-! ### The reference's Join -/
/-! ### Same -/
end Go.Proofs.YtljdnjidphmkjaaDoor
namespace Go.Proofs.YtljdnjidphmkjaaDoor
open Go Go.RowKit
/-- What a law of layer 11 asks of the world. -/
structure Ask11 (w : World) : Prop where
  marks : Marks w
  max : MaxL w
theorem Ask11.below {w w' : World} (h : Ask11 w) (hb : Below w.heap.size w w') : Ask11 w' := ⟨h.marks.below hb, h.max.below hb⟩
theorem scan_any (s : ByteArray) (w : World) (h : Ask11 w) : Calls Tryd.prog 8 #[.string s] w (ScanTells (scanL (strL s)) w) := by
  by_cases hl : 2048 < s.size
  · exact scan_long s w hl
  · exact scan_short s w h.marks h.max hl
end Go.Proofs.YtljdnjidphmkjaaDoor
namespace Go.Proofs.YtljdnjidphmkjaaDoor
open Go Go.RowKit
/-! ### Texts within quotes -/
theorem putL_high {N : Int} (h : 128 ≤ N) : ∀ x ∈ putL N, 128 ≤ x := fun x hx => by
  rcases putL_cases N with ⟨h', _⟩ | ⟨_, _, h'⟩ | ⟨_, _, h'⟩ | ⟨_, _, _, h'⟩ | ⟨_, _, h'⟩ <;> rw [h'] at hx <;> simp at hx <;> omega
theorem first_byteN {c : Int} {r : List Int} (hv : (nxL (c :: r)).1 ≠ -1) (h : c < 128) : (nxL (c :: r)).2 = 1 ∧ (nxL (c :: r)).1 = c := by
  obtain ⟨h1, h2, h3, h4, _, h6, h7⟩ := nx_found hv
  obtain ⟨m, hm⟩ : ∃ m, (nxL (c :: r)).2 = m + 1 := ⟨(nxL (c :: r)).2 - 1, by omega⟩
  rw [hm, List.take_succ_cons] at h1
  rcases putL_cases (nxL (c :: r)).1 with ⟨h', _⟩ | ⟨_, hlt, h'⟩ | ⟨_, _, h'⟩ | ⟨_, _, _, h'⟩ | ⟨_, _, h'⟩ <;> rw [h'] at h1 h2
  · cases h1
  · injection h1 with a b
    simp at h2
    exact ⟨h2.symm, a⟩
  all_goals (injection h1 with a b; omega)
theorem esc1_self {c : Int} (h1 : c ≠ 34) (h2 : c ≠ 92) : esc1 c = [c] := by unfold esc1; rw [if_neg (by omega)]
theorem escN_self : ∀ l : List Int, (∀ x ∈ l, x ≠ 34 ∧ x ≠ 92) → escN l = l
  | [], _ => rfl
  | c :: r, h => by rw [escN_cons, esc1_self (h c (by simp)).1 (h c (by simp)).2, escN_self r (fun x hx => h x (List.mem_cons_of_mem _ hx))]; rfl
theorem highL_cons {c : Int} {r : List Int} : highL (c :: r) = true ↔ 32 ≤ c ∧ highL r = true := by
  unfold highL
  rw [List.all_cons, Bool.and_eq_true, decide_eq_true_eq]
theorem highL_app {a b : List Int} : highL (a ++ b) = true ↔ highL a = true ∧ highL b = true := by
  unfold highL
  rw [List.all_append, Bool.and_eq_true]
theorem quot_esc : ∀ (n : Nat) (l : List Int), l.length ≤ n → badU l = l.length → highL l = true → ∀ (f : Nat) (rest : List Int), (escN l ++ 34 :: rest).length < f → quotF f (escN l ++ 34 :: rest) = (l, (escN l).length + 1, true)
  | n, [], _, _, _, 0, rest, hf => absurd hf (Nat.not_lt_zero _)
  | n, [], _, _, _, f + 1, rest, hf => by rw [escN_nil, List.nil_append, quotF_end]; rfl
  | 0, c :: r, hl, _, _, _, _, _ => by simp at hl
  | n + 1, c :: r, hl, hu, hh, 0, rest, hf => absurd hf (Nat.not_lt_zero _)
  | n + 1, c :: r, hl, hu, hh, f + 1, rest, hf => by
    have hv : (nxL (c :: r)).1 ≠ -1 := fun e => by rw [badU_stop e] at hu; cases hu
    have hb := badU_go hv
    obtain ⟨p1, p2, p3, p4, _, p6, p7⟩ := nx_found hv
    obtain ⟨m, hm⟩ : ∃ m, m = (nxL (c :: r)).2 := ⟨_, rfl⟩
    obtain ⟨N, hN⟩ : ∃ N, N = (nxL (c :: r)).1 := ⟨_, rfl⟩
    rw [← hm] at hb p1 p2 p3 p4
    rw [← hN] at p1 p2 p6 p7
    have hu2 : badU ((c :: r).drop m) = ((c :: r).drop m).length := by rw [List.length_drop]; omega
    have hln : ((c :: r).drop m).length ≤ n := by rw [List.length_drop]; simp only [List.length_cons] at hl ⊢; omega
    have hc32 := (highL_cons.1 hh).1
    have hch := (highL_cons.1 hh).2
    by_cases hlow : c = 34 ∨ c = 92
    · obtain ⟨e1, e2⟩ := first_byteN hv (by omega)
      rw [← hm] at e1
      rw [e1, List.drop_succ_cons, List.drop_zero] at hu2 hln
      have he : esc1 c = [92, c] := by unfold esc1; rw [if_pos hlow]
      rw [escN_cons, he] at hf ⊢
      have hlen : (escN r ++ 34 :: rest).length < f := by simp at hf ⊢; omega
      show quotF (f + 1) (92 :: c :: (escN r ++ 34 :: rest)) = _
      rw [quotF_esc hlow, quot_esc n r hln hu2 hch f rest hlen]
      simp [appQ] <;> omega
    · have hself : ∀ x ∈ (c :: r).take m, x ≠ 34 ∧ x ≠ 92 := fun x hx => by
        by_cases h128 : c < 128
        · obtain ⟨e1, e2⟩ := first_byteN hv h128
          rw [← hm] at e1
          rw [e1, List.take_succ_cons, List.take_zero, List.mem_singleton] at hx
          subst hx; omega
        · have hNb : 128 ≤ N := Decidable.byContradiction fun hn => by
            rw [putL_one p6 (by omega)] at p1
            obtain ⟨m', rfl⟩ : ∃ m', m = m' + 1 := ⟨m - 1, by omega⟩
            rw [List.take_succ_cons] at p1
            injection p1 with a b; omega
          have := putL_high hNb x (by rw [p1]; exact hx)
          omega
      obtain ⟨T, hT⟩ : ∃ T, T = (c :: r).take m := ⟨_, rfl⟩
      obtain ⟨D, hD⟩ : ∃ D, D = (c :: r).drop m := ⟨_, rfl⟩
      have hcr : c :: r = T ++ D := by rw [hT, hD, List.take_append_drop]
      have hTl : T.length = m := by rw [hT, List.length_take]; omega
      rw [← hT] at p1 hself
      rw [← hD] at hu2 hln
      have hT1 : ∃ T', T = c :: T' := by
        obtain ⟨m', e⟩ : ∃ m', m = m' + 1 := ⟨m - 1, by omega⟩
        rw [e, List.take_succ_cons] at hT
        exact ⟨_, hT⟩
      obtain ⟨T', hT'⟩ := hT1
      have hhD : highL D = true := by
        rw [hcr] at hh; exact (highL_app.1 hh).2
      rw [hcr, escN_app, escN_self T hself, List.append_assoc] at hf ⊢
      have hnx : nxL (T ++ (escN D ++ 34 :: rest)) = (N, m) := by rw [← p1, nx_put p7, p2]
      have hlen : (escN D ++ 34 :: rest).length < f := by
        rw [List.length_append, hTl] at hf; omega
      have hgo := quotF_go (f := f) (c := c) (r := T' ++ (escN D ++ 34 :: rest)) (by omega) (by omega) (by omega) (by rw [← List.cons_append, ← hT', hnx]; omega)
      rw [← List.cons_append, ← hT', hnx] at hgo
      rw [hgo]
      show appQ ((T ++ (escN D ++ 34 :: rest)).take m) m (quotF f ((T ++ (escN D ++ 34 :: rest)).drop m)) = _
      rw [← hTl, List.take_left, List.drop_left, quot_esc n D hln hu2 hhD f rest hlen]
      simp [appQ] <;> omega
  termination_by n l => n
/-! ### A token from its text -/
/-- Does a byte begin what stands between tokens? -/
def gapC (c : Int) : Bool := blankC c || decide (c = 35)
def Gap0 (y : List Int) : Prop := y = [] ∨ ∃ c r, y = c :: r ∧ gapC c = true
theorem gapC_iff {c : Int} : gapC c = true ↔ (c = 32 ∨ c = 9 ∨ c = 10 ∨ c = 13 ∨ c = 35) := by
  unfold gapC
  rw [Bool.or_eq_true, blankC_iff, decide_eq_true_eq]; omega
/-- The text x is that of the token (kind, text, number), whatever stands behind. -/
structure Good (k : Int) (X : List Int) (n : Int) (x : List Int) : Prop where
  ne : x ≠ []
  head : gapC (x.getD 0 0) = false
  tok : ∀ rest, Gap0 rest → tokL (x ++ rest) = ⟨0, 0, k, X, n, x.length⟩
theorem wordN_app : ∀ (x rest : List Int), wordN x = x.length → Gap0 rest → wordN (x ++ rest) = x.length
  | [], rest, _, hr => by
    rcases hr with rfl | ⟨c, r, rfl, hc⟩
    · rfl
    · rw [gapC_iff] at hc
      exact wordN_stop (smallC_false.2 (by omega))
  | c :: r, rest, h, hr => by
    have hc : smallC c = true := by
      cases hs : smallC c with
      | true => rfl
      | false => rw [wordN_stop hs] at h; cases h
    rw [wordN_go hc, List.length_cons] at h
    rw [List.cons_append, wordN_go hc, wordN_app r rest (by omega) hr, List.length_cons]
theorem good_word {x : List Int} (h0 : x ≠ []) (h1 : wordN x = x.length) (h2 : x.length ≤ 32) : Good 1 x 0 x := by
  obtain ⟨c, r, rfl⟩ := List.exists_cons_of_ne_nil h0
  have hc : smallC c = true := by
    cases hs : smallC c with
    | true => rfl
    | false => rw [wordN_stop hs] at h1; cases h1
  have hc2 := smallC_iff.1 hc
  refine ⟨h0, ?_, fun rest hr => ?_⟩
  · rw [List.getD_cons_zero, Bool.eq_false_iff]
    intro hg
    rw [gapC_iff] at hg; omega
  · have hw := wordN_app (c :: r) rest h1 hr
    have e : tokL (c :: r ++ rest) = tokL (c :: (r ++ rest)) := rfl
    rw [e, tokL_cons, if_pos hc, ← List.cons_append, hw, if_neg (by omega), List.take_left]
theorem good_text {l : List Int} (h1 : badU l = l.length) (h2 : highL l = true) : Good 2 l 0 (34 :: (escN l ++ [34])) := by
  refine ⟨by simp, rfl, fun rest hr => ?_⟩
  have e : (34 :: (escN l ++ [34])) ++ rest = 34 :: (escN l ++ 34 :: rest) := by simp
  have hq : quotN (escN l ++ 34 :: rest) = (l, (escN l).length + 1, true) := quot_esc _ l (Nat.le_refl _) h1 h2 _ rest (Nat.lt_succ_self _)
  rw [e, tokL_cons, if_neg (by decide), if_pos rfl, hq, if_pos rfl]
  simp
theorem lead_none {c : Int} {r : List Int} (h : ¬ (c = 45 ∨ (48 ≤ c ∧ c ≤ 57))) : leadL (c :: r) = 0 := by
  rw [leadL, if_neg (by omega), if_neg (by omega), runL, if_neg (by rw [isD_iff]; omega)]
theorem runL_frontN {d r : List Int} (hd : AllD d) (hr : ∀ e r', r = e :: r' → isD e = false) : runL (d ++ r) = d.length := by
  cases r with
  | nil => rw [List.append_nil]; exact runL_all hd
  | cons e r' => exact runL_app e r' hd (hr e r' rfl)
theorem lead_appN {t r : List Int} (h : formL t = true) (hr : ∀ e r', r = e :: r' → isD e = false) : leadL (t ++ r) = t.length := by
  rcases formL_parts h with ⟨_, hd, h49, e⟩ | ⟨h45, hd, hne, h1⟩
  · obtain ⟨d, hdd⟩ : ∃ d, d = t.drop 1 := ⟨_, rfl⟩
    rw [← hdd] at hd h49 e
    subst e
    cases d with
    | nil => simp at h49
    | cons c q =>
      rw [List.getD_cons_zero] at h49
      have h57 := (hd c (by simp)).2
      rw [List.cons_append, leadL, if_pos rfl, List.cons_append, List.getD_cons_zero, if_pos ⟨h49, h57⟩, ← List.cons_append, runL_frontN hd hr]
      rfl
  · cases t with
    | nil => exact absurd rfl hne
    | cons c q =>
      rw [List.getD_cons_zero] at h45 h1
      rw [List.cons_append, leadL, if_neg h45]
      by_cases h48 : c = 48
      · subst h48
        rw [if_pos rfl]
        rcases h1 with h1 | h1
        · exact absurd h1 (by decide)
        · exact h1.symm
      · rw [if_neg h48, ← List.cons_append, runL_frontN hd hr]
theorem good_num {n : Int} (h : -9007199254740991 ≤ n ∧ n ≤ 9007199254740991) : Good 3 [] n (prL n) := by
  have hf := form_prL n
  have hne : prL n ≠ [] := fun e => by rw [e] at hf; cases hf
  obtain ⟨c, r, hc⟩ := List.exists_cons_of_ne_nil hne
  have hcc : c = 45 ∨ (48 ≤ c ∧ c ≤ 57) := by
    rcases formL_parts hf with ⟨h45, _⟩ | ⟨_, hd, _, _⟩
    · rw [hc, List.getD_cons_zero] at h45; exact .inl h45
    · rw [hc] at hd; exact .inr (hd c (by simp))
  refine ⟨hne, ?_, fun rest hr => ?_⟩
  · rw [hc, List.getD_cons_zero, Bool.eq_false_iff]
    intro hg
    rw [gapC_iff] at hg; omega
  · have hld : leadL (prL n ++ rest) = (prL n).length := lead_appN hf (fun e r' hre => by
      rcases hr with rfl | ⟨d, q, rfl, hd⟩
      · cases hre
      · injection hre with e1 _
        rw [gapC_iff] at hd
        rw [← e1, isD_false]; omega)
    have hfit : fitL (prL n) (-9007199254740991) 9007199254740991 = true := by
      unfold fitL
      rw [numL_prL]
      exact decide_eq_true (by omega)
    have hpos : 0 < (prL n).length := List.length_pos_iff.2 hne
    have hnum := numL_prL n
    rw [hc] at hld hfit hpos hnum ⊢
    rw [List.cons_append] at hld
    rw [List.cons_append, tokL_cons, if_neg (by rw [smallC_false.2 (by omega)]; decide), if_neg (by omega), hld, if_pos hpos, ← List.cons_append, List.take_left, hfit, if_pos rfl, hnum]
theorem good_sign {x : List Int} (h0 : x ≠ []) (h1 : signN x = x.length) : Good 4 x 0 x := by
  match x, h0, h1 with
  | [c], _, h1 =>
    have hc : oneC c = true := by
      cases ho : oneC c with
      | true => rfl
      | false => rw [signN, ho, if_neg (by decide)] at h1; cases h1
    have hc2 : c = 40 ∨ c = 41 ∨ c = 91 ∨ c = 93 ∨ c = 44 ∨ c = 59 ∨ c = 61 ∨ c = 60 ∨ c = 62 := of_decide_eq_true hc
    refine ⟨by simp, ?_, fun rest hr => ?_⟩
    · rw [List.getD_cons_zero, Bool.eq_false_iff]
      intro hg
      rw [gapC_iff] at hg; omega
    · have hs : signN (c :: rest) = 1 := by
        rcases hr with rfl | ⟨d, q, rfl, hd⟩
        · rw [signN, if_pos hc]
        · rw [gapC_iff] at hd
          rw [signN, if_neg (by omega), if_pos hc]
      rw [List.cons_append, List.nil_append, tokL_cons, if_neg (by rw [smallC_false.2 (by omega)]; decide), if_neg (by omega), lead_none (by omega), if_neg (by omega), hs, if_pos (by omega)]
      rfl
  | c :: d :: [], _, h1 =>
    have hcd : d = 61 ∧ (c = 33 ∨ c = 60 ∨ c = 62) := by
      rcases Decidable.em (d = 61 ∧ (c = 33 ∨ c = 60 ∨ c = 62)) with h | h
      · exact h
      · rw [signN, if_neg h] at h1
        split at h1 <;> cases h1
    refine ⟨by simp, ?_, fun rest hr => ?_⟩
    · rw [List.getD_cons_zero, Bool.eq_false_iff]
      intro hg
      rw [gapC_iff] at hg; omega
    · have hs : signN (c :: d :: rest) = 2 := by rw [signN, if_pos hcd]
      show tokL (c :: (d :: rest)) = _
      rw [tokL_cons, if_neg (by rw [smallC_false.2 (by omega)]; decide), if_neg (by omega), lead_none (by omega), if_neg (by omega), hs, if_pos (by omega)]
      rfl
  | c :: d :: e :: r, _, h1 =>
    have := (signN_le (c :: d :: e :: r)).2
    rw [h1] at this; simp at this
/-- What a token that has a text is scanned as. -/
def normK (t : TokM) : Int × List Int × Int := (t.kind, if t.kind = 3 then [] else strL t.text, if t.kind = 3 then t.num else 0)
theorem good_spell (t : TokM) (h : spellN t ≠ []) : Good (normK t).1 (normK t).2.1 (normK t).2.2 (spellN t) := by
  obtain ⟨k, s, n, p⟩ := t
  by_cases h1 : k = 1
  · subst h1
    have e : spellN ⟨1, s, n, p⟩ = if wordN (strL s) = s.size ∧ s.size ≤ 32 then strL s else [] := rfl
    rw [e] at h ⊢
    by_cases hw : wordN (strL s) = s.size ∧ s.size ≤ 32
    · rw [if_pos hw] at h ⊢
      show Good 1 (strL s) 0 (strL s)
      exact good_word h (by rw [length_strL]; exact hw.1) (by rw [length_strL]; exact hw.2)
    · rw [if_neg hw] at h; exact absurd rfl h
  · by_cases h2 : k = 2
    · subst h2
      have e : spellN ⟨2, s, n, p⟩ = (quoteN (strL s)).1 := rfl
      rw [e] at h ⊢
      unfold quoteN at h ⊢
      by_cases hq : badU (strL s) = (strL s).length ∧ highL (strL s) = true
      · rw [if_pos hq] at h ⊢
        exact good_text hq.1 hq.2
      · rw [if_neg hq] at h; exact absurd rfl h
    · by_cases h3 : k = 3
      · subst h3
        have e : spellN ⟨3, s, n, p⟩ = if -9007199254740991 ≤ n ∧ n ≤ 9007199254740991 then prL n else [] := rfl
        rw [e] at h ⊢
        by_cases hn : -9007199254740991 ≤ n ∧ n ≤ 9007199254740991
        · rw [if_pos hn] at h ⊢
          exact good_num hn
        · rw [if_neg hn] at h; exact absurd rfl h
      · by_cases h4 : k = 4
        · subst h4
          have e : spellN ⟨4, s, n, p⟩ = if signN (strL s) = s.size then strL s else [] := rfl
          rw [e] at h ⊢
          by_cases hs : signN (strL s) = s.size
          · rw [if_pos hs] at h ⊢
            show Good 4 (strL s) 0 (strL s)
            exact good_sign h (by rw [length_strL]; exact hs)
          · rw [if_neg hs] at h; exact absurd rfl h
        · exact absurd (by unfold spellN; rw [if_neg h1, if_neg h2, if_neg h3, if_neg h4]) h
/-! ### Tokens one behind the other -/
/-- A token but for its place. -/
def er (t : TokM) : Int × ByteArray × Int := (t.kind, t.text, t.num)
def erEnd : Int × ByteArray × Int := (5, ⟨#[]⟩, 0)
def GapOk (g : List Int) : Prop := ∀ y, gapM false (g ++ y) = g.length + gapM false y
theorem gapOk_nil : GapOk [] := fun y => by simp
/-- What stands between, and a text; at last what stands behind all. -/
def seqT : List (List Int × List Int) → List Int → List Int
  | [], tail => tail
  | (g, x) :: r, tail => g ++ (x ++ seqT r tail)
theorem gap_head {x y : List Int} (h0 : x ≠ []) (h : gapC (x.getD 0 0) = false) : gapM false (x ++ y) = 0 := by
  obtain ⟨c, r, rfl⟩ := List.exists_cons_of_ne_nil h0
  rw [List.getD_cons_zero] at h
  have h2 : ¬ (c = 32 ∨ c = 9 ∨ c = 10 ∨ c = 13 ∨ c = 35) := fun hc => by rw [gapC_iff.2 hc] at h; cases h
  exact gapM_none (blankC_false.2 (by omega)) (by omega)
theorem scan_seq : ∀ (its : List (List Int × TokM)) (tail : List Int) (f p : Nat) (acc : List TokM),
    (∀ it ∈ its, GapOk it.1 ∧ spellN it.2 ≠ []) → (∀ it ∈ its.drop 1, Gap0 it.1 ∧ it.1 ≠ []) → gapM false tail = tail.length → Gap0 tail → acc.length + its.length ≤ 512 → (seqT (its.map fun it => (it.1, spellN it.2)) tail).length < f →
    ∃ ts, scanF f (seqT (its.map fun it => (it.1, spellN it.2)) tail) p acc = (acc ++ ts, 0, -1) ∧ ts.map er = its.map (fun it => ((normK it.2).1, toS (normK it.2).2.1, (normK it.2).2.2)) ++ [erEnd]
  | _, tail, 0, p, acc, _, _, _, _, _, hf => absurd hf (Nat.not_lt_zero _)
  | [], tail, f + 1, p, acc, _, _, ht, _, _, _ => by
    have hg := ht
    refine ⟨[endT (p + gapM false tail)], ?_, rfl⟩
    show scanF (f + 1) tail p acc = _
    rw [scanF_end (by rw [hg]; exact List.drop_length)]
  | (g, t) :: r, tail, f + 1, p, acc, h1, h2, ht, ht0, hn, hf => by
    obtain ⟨hgo, hsp⟩ := h1 (g, t) (by simp)
    have hG := good_spell t hsp
    obtain ⟨Y, hY⟩ : ∃ Y, Y = seqT (r.map fun it => (it.1, spellN it.2)) tail := ⟨_, rfl⟩
    have hY0 : Gap0 Y := by
      rw [hY]
      cases r with
      | nil => exact ht0
      | cons it q =>
        obtain ⟨hg0, hg1⟩ := h2 it (by simp)
        rcases hg0 with h | ⟨c, z, h, hc⟩
        · exact absurd h hg1
        · refine .inr ⟨c, z ++ (spellN it.2 ++ seqT (q.map fun it => (it.1, spellN it.2)) tail), ?_, hc⟩
          show it.1 ++ _ = _
          rw [h]; rfl
    have e : seqT (((g, t) :: r).map fun it => (it.1, spellN it.2)) tail = g ++ (spellN t ++ Y) := by rw [hY]; rfl
    rw [e] at hf ⊢
    obtain ⟨x, hx⟩ : ∃ x, x = spellN t := ⟨_, rfl⟩
    rw [← hx] at hG hf ⊢
    have hgap : gapM false (g ++ (x ++ Y)) = g.length := by rw [hgo, gap_head hG.ne hG.head, Nat.add_zero]
    have hdr : (g ++ (x ++ Y)).drop (gapM false (g ++ (x ++ Y))) = x ++ Y := by rw [hgap, List.drop_left]
    have htok := hG.tok Y hY0
    have hxl : 1 ≤ x.length := List.length_pos_iff.2 hG.ne
    rw [List.length_append, List.length_append] at hf
    have hgoS := scanF_go (f := f) (l := g ++ (x ++ Y)) (p := p) (acc := acc) (by rw [hdr, htok]) (by rw [hdr]; intro e0; exact hG.ne (List.append_eq_nil_iff.1 e0).1) (by simp only [List.length_cons] at hn; omega)
    rw [hdr, htok, hgap] at hgoS
    have hd2 : (g ++ (x ++ Y)).drop (g.length + x.length) = Y := by rw [← List.drop_drop, List.drop_left, List.drop_left]
    obtain ⟨ts, hs, he⟩ := scan_seq r tail f (p + (g.length + x.length)) (acc ++ [madeT ⟨0, 0, (normK t).1, (normK t).2.1, (normK t).2.2, x.length⟩ (p + g.length)]) (fun it hi => h1 it (List.mem_cons_of_mem _ hi)) (fun it hi => h2 it (by
      rw [List.drop_succ_cons, List.drop_zero]; exact List.mem_of_mem_drop hi)) ht ht0 (by simp only [List.length_append, List.length_cons, List.length_nil] at hn ⊢; omega) (by rw [← hY]; omega)
    refine ⟨madeT ⟨0, 0, (normK t).1, (normK t).2.1, (normK t).2.2, x.length⟩ (p + g.length) :: ts, ?_, ?_⟩
    · rw [hgoS]
      show scanF f ((g ++ (x ++ Y)).drop (g.length + x.length)) _ _ = _
      rw [hd2, hY, hs, List.append_assoc]; rfl
    · rw [List.map_cons, he, List.map_cons, List.cons_append]; rfl
/-! ### What a scan tells -/
/-- The tokens that have a text. -/
def bodyOf (ts : List TokM) : List TokM := ts.filter fun t => !(spellN t).isEmpty
theorem body_ne {ts : List TokM} {t : TokM} (h : t ∈ bodyOf ts) : spellN t ≠ [] := by
  have := (List.mem_filter.1 h).2
  intro e; rw [e] at this; cases this
theorem texts_body (ts : List TokM) : textsN ts = (bodyOf ts).map spellN := by
  unfold textsN bodyOf
  rw [List.filter_map]; rfl
/-- Tokens with blanks between. -/
def itJ : List TokM → List (List Int × TokM)
  | [] => []
  | t :: r => ([], t) :: r.map fun u => ([32], u)
theorem glue_seq : ∀ (x : List Int) (r : List (List Int)), glue (x :: r) = x ++ seqT (r.map fun y => ([32], y)) []
  | x, [] => by simp [glue, seqT]
  | x, y :: r => by
    rw [glue, glue_seq y r, List.map_cons, seqT]; rfl
theorem join_seq (ts : List TokM) : joinN ts = seqT ((itJ (bodyOf ts)).map fun it => (it.1, spellN it.2)) [] := by
  unfold joinN
  rw [texts_body]
  cases bodyOf ts with
  | nil => rfl
  | cons t r =>
    rw [List.map_cons, glue_seq]
    show _ = ([] : List Int) ++ (spellN t ++ seqT ((r.map fun u => ([32], u)).map fun it => (it.1, spellN it.2)) [])
    rw [List.nil_append, List.map_map, List.map_map]; rfl
def erN (t : TokM) : Int × ByteArray × Int := ((normK t).1, toS (normK t).2.1, (normK t).2.2)
theorem itJ_er : ∀ b : List TokM, (itJ b).map (fun it => ((normK it.2).1, toS (normK it.2).2.1, (normK it.2).2.2)) = b.map erN
  | [] => rfl
  | t :: r => by
    show _ :: ((r.map fun u => (([32] : List Int), u)).map _) = _
    rw [List.map_map]; rfl
theorem itJ_len : ∀ b : List TokM, (itJ b).length = b.length
  | [] => rfl
  | t :: r => by simp [itJ]
theorem gapOk_blank : GapOk [32] := fun y => by
  show gapM false (32 :: y) = 1 + _
  rw [gapM_blank (by decide)]; omega
/-- A joined text is scanned as its tokens. -/
theorem scan_join (ts : List TokM) (hn : (bodyOf ts).length ≤ 512) (hl : (joinN ts).length ≤ 2048) : ∃ us, scanL (joinN ts) = (us, 0, -1) ∧ us.map er = (bodyOf ts).map erN ++ [erEnd] := by
  have h1 : ∀ it ∈ itJ (bodyOf ts), GapOk it.1 ∧ spellN it.2 ≠ [] := fun it hi => by
    cases hb : bodyOf ts with
    | nil => rw [hb] at hi; cases hi
    | cons t r =>
      rw [hb] at hi
      rcases List.mem_cons.1 hi with rfl | hi
      · exact ⟨gapOk_nil, body_ne (by rw [hb]; simp)⟩
      · obtain ⟨u, hu, rfl⟩ := List.mem_map.1 hi
        exact ⟨gapOk_blank, body_ne (by rw [hb]; exact List.mem_cons_of_mem _ hu)⟩
  have h2 : ∀ it ∈ (itJ (bodyOf ts)).drop 1, Gap0 it.1 ∧ it.1 ≠ [] := fun it hi => by
    cases hb : bodyOf ts with
    | nil => rw [hb] at hi; cases hi
    | cons t r =>
      rw [hb] at hi
      obtain ⟨u, hu, rfl⟩ := List.mem_map.1 hi
      exact ⟨.inr ⟨32, [], rfl, rfl⟩, by simp⟩
  obtain ⟨us, hs, he⟩ := scan_seq (itJ (bodyOf ts)) [] ((joinN ts).length + 1) 0 [] h1 h2 rfl (.inl rfl) (by rw [itJ_len]; simpa using hn) (by rw [← join_seq]; exact Nat.lt_succ_self _)
  rw [← join_seq, List.nil_append] at hs
  refine ⟨us, ?_, by rw [he, itJ_er]⟩
  rw [scanL, if_neg (by omega), hs]
/-! ### Sizes; errors -/
end Go.Proofs.YtljdnjidphmkjaaDoor
namespace Go.Proofs.YtljdnjidphmkjaaDoor
open Go Go.RowKit
theorem er_at {ts us : List TokM} (h : us.map er = ts.map er) {i : Nat} (h1 : i < ts.length) (h2 : i < us.length) : us[i].kind = ts[i].kind ∧ us[i].text = ts[i].text ∧ us[i].num = ts[i].num := by
  have h3 := congrArg (fun l => l[i]?) h
  simp only [List.getElem?_map] at h3
  rw [List.getElem?_eq_getElem h1, List.getElem?_eq_getElem h2] at h3
  simp only [Option.map_some, Option.some.injEq, er, Prod.mk.injEq] at h3
  exact h3
end Go.Proofs.YtljdnjidphmkjaaDoor
namespace Go.Proofs.YtljdnjidphmkjaaDoor
open Go Go.RowKit
/-- Tokens that Go can hold. -/
def TokOk (ts : List TokM) : Prop := ∀ t ∈ ts, t.text.size ≤ 9223372036854775807 ∧ -9223372036854775808 ≤ t.num ∧ t.num ≤ 9223372036854775807
end Go.Proofs.YtljdnjidphmkjaaDoor
namespace Go.Proofs.YtljdnjidphmkjaaDoor
open Go Go.RowKit
/-- What the law lays between tokens. -/
def sepL : Nat → List Int
  | 0 => [32]
  | 1 => [9, 10]
  | 2 => [32, 35, 32, 112, 101, 114, 109, 105, 116, 32, 34, 10]
  | 3 => [13, 10, 10]
  | _ => [35, 10]
theorem sepL_ne (k : Nat) : sepL k ≠ [] := by unfold sepL; split <;> simp
theorem sepL_bytes (k : Nat) : Bytes (sepL k) := by unfold sepL; split <;> exact .of_mem (by decide)
theorem sepL_gap0 (k : Nat) : Gap0 (sepL k) := by
  unfold sepL; split <;> exact .inr ⟨_, _, rfl, by decide⟩
theorem gapR_one {c : Int} {r : List Int} (h : c ≠ 10) : gapM true (c :: r) = gapM true r + 1 := by rw [gapM, if_neg h]
theorem gapR_end {r : List Int} : gapM true (10 :: r) = gapM false r + 1 := by rw [gapM, if_pos rfl]
theorem gapH {r : List Int} : gapM false (35 :: r) = gapM true r + 1 := by rw [gapM, if_neg (by decide), if_pos rfl]
theorem sepL_ok (k : Nat) : GapOk (sepL k) := fun y => by
  unfold sepL
  split
  · show gapM false (32 :: y) = 1 + _
    rw [gapM_blank (by decide)]; omega
  · show gapM false (9 :: 10 :: y) = 2 + _
    rw [gapM_blank (by decide), gapM_blank (by decide)]; omega
  · show gapM false (32 :: 35 :: 32 :: 112 :: 101 :: 114 :: 109 :: 105 :: 116 :: 32 :: 34 :: 10 :: y) = 12 + _
    rw [gapM_blank (by decide), gapH, gapR_one (by decide), gapR_one (by decide), gapR_one (by decide), gapR_one (by decide), gapR_one (by decide), gapR_one (by decide), gapR_one (by decide), gapR_one (by decide), gapR_one (by decide), gapR_end]; omega
  · show gapM false (13 :: 10 :: 10 :: y) = 3 + _
    rw [gapM_blank (by decide), gapM_blank (by decide), gapM_blank (by decide)]; omega
  · show gapM false (35 :: 10 :: y) = 2 + _
    rw [gapH, gapR_end]; omega
def tailL : List Int := [32, 35, 101, 110, 100]
theorem tail_gap : gapM false tailL = tailL.length := by decide
/-- The tokens that have a text, what stands before each by its number. -/
def itB (k : Nat → Nat) : Nat → List TokM → List (List Int × TokM)
  | _, [] => []
  | i, t :: r => if spellN t = [] then itB k (i + 1) r else (sepL (k i), t) :: itB k (i + 1) r
theorem itB_app (k : Nat → Nat) : ∀ (xs ys : List TokM) (i : Nat), itB k i (xs ++ ys) = itB k i xs ++ itB k (i + xs.length) ys
  | [], ys, i => rfl
  | x :: xs, ys, i => by
    rw [List.cons_append, itB, itB, itB_app k xs ys (i + 1), show i + 1 + xs.length = i + (x :: xs).length by simp only [List.length_cons]; omega]
    by_cases h : spellN x = []
    · rw [if_pos h, if_pos h]
    · rw [if_neg h, if_neg h]; rfl
theorem itB_body (k : Nat → Nat) : ∀ (ts : List TokM) (i : Nat), (itB k i ts).map (·.2) = bodyOf ts
  | [], _ => rfl
  | t :: r, i => by
    rw [itB, show bodyOf (t :: r) = if (!(spellN t).isEmpty) = true then t :: bodyOf r else bodyOf r from List.filter_cons]
    by_cases h : spellN t = []
    · rw [if_pos h, h, itB_body k r (i + 1)]; rfl
    · rw [if_neg h, if_pos (by cases hs : spellN t with | nil => exact absurd hs h | cons c q => rfl), List.map_cons, itB_body k r (i + 1)]
theorem itB_len (k : Nat → Nat) (ts : List TokM) (i : Nat) : (itB k i ts).length = (bodyOf ts).length := by
  rw [← itB_body k ts i, List.length_map]
theorem itB_mem (k : Nat → Nat) : ∀ (ts : List TokM) (i : Nat), ∀ it ∈ itB k i ts, GapOk it.1 ∧ spellN it.2 ≠ [] ∧ Gap0 it.1 ∧ it.1 ≠ [] ∧ Bytes it.1
  | [], _, it, h => by cases h
  | t :: r, i, it, h => by
    rw [itB] at h
    by_cases hs : spellN t = []
    · rw [if_pos hs] at h; exact itB_mem k r (i + 1) it h
    · rw [if_neg hs] at h
      rcases List.mem_cons.1 h with rfl | h
      · exact ⟨sepL_ok _, hs, sepL_gap0 _, sepL_ne _, sepL_bytes _⟩
      · exact itB_mem k r (i + 1) it h
theorem seqT_app : ∀ (a b : List (List Int × List Int)) (tail : List Int), seqT (a ++ b) tail = seqT a (seqT b tail)
  | [], _, _ => rfl
  | (g, x) :: r, b, tail => by rw [List.cons_append, seqT, seqT, seqT_app r b tail]
theorem seqT_tail : ∀ (a : List (List Int × List Int)) (tail : List Int), seqT a tail = seqT a [] ++ tail
  | [], _ => rfl
  | (g, x) :: r, tail => by rw [seqT, seqT, seqT_tail r tail, List.append_assoc, List.append_assoc]
/-- The law's text of the first tokens. -/
def textB (k : Nat → Nat) (ts : List TokM) : List Int := seqT ((itB k 0 ts).map fun it => (it.1, spellN it.2)) []
theorem textB_snoc (k : Nat → Nat) (ts : List TokM) (t : TokM) : textB k (ts ++ [t]) = if spellN t = [] then textB k ts else textB k ts ++ sepL (k ts.length) ++ spellN t := by
  unfold textB
  rw [itB_app, List.map_append, seqT_app, seqT_tail, Nat.zero_add]
  by_cases h : spellN t = []
  · rw [if_pos h, itB, if_pos h]; simp [itB, seqT]
  · rw [if_neg h, itB, if_neg h]; simp [itB, seqT]
theorem seqT_bytes : ∀ (a : List (List Int × List Int)), (∀ x ∈ a, Bytes x.1 ∧ Bytes x.2) → Bytes (seqT a [])
  | [], _ => .of_mem fun x hx => by cases hx
  | (g, x) :: r, h => .of_mem fun y hy => by
    rw [seqT] at hy
    have h0 := h (g, x) (by simp)
    rcases List.mem_append.1 hy with hy | hy
    · exact h0.1.mem hy
    · rcases List.mem_append.1 hy with hy | hy
      · exact h0.2.mem hy
      · exact (seqT_bytes r (fun z hz => h z (List.mem_cons_of_mem _ hz))).mem hy
theorem textB_bytes (k : Nat → Nat) (ts : List TokM) : Bytes (textB k ts) := seqT_bytes _ fun x hx => by
  obtain ⟨it, hi, rfl⟩ := List.mem_map.1 hx
  exact ⟨(itB_mem k ts 0 it hi).2.2.2.2, spellN_bytes _⟩
theorem body_snoc (ts : List TokM) (t : TokM) : (bodyOf (ts ++ [t])).length = (bodyOf ts).length + if spellN t = [] then 0 else 1 := by
  unfold bodyOf
  rw [List.filter_append, List.length_append]
  by_cases h : spellN t = []
  · rw [if_pos h, List.filter_cons_of_neg (by rw [h]; decide)]; rfl
  · rw [if_neg h, List.filter_cons_of_pos (by cases hs : spellN t with | nil => exact absurd hs h | cons c q => rfl)]; rfl
theorem itB_er (k : Nat → Nat) (ts : List TokM) : (itB k 0 ts).map (fun it => ((normK it.2).1, toS (normK it.2).2.1, (normK it.2).2.2)) = (bodyOf ts).map erN := by
  rw [← itB_body k ts 0, List.map_map]; rfl
/-- What the law lays between counts for nothing. -/
theorem scan_blanks (k : Nat → Nat) (ts : List TokM) (hn : (bodyOf ts).length ≤ 512) (hl : (textB k ts).length + 5 ≤ 2048) : ∃ us, scanL (textB k ts ++ tailL) = (us, 0, -1) ∧ us.map er = (bodyOf ts).map erN ++ [erEnd] := by
  have e : textB k ts ++ tailL = seqT ((itB k 0 ts).map fun it => (it.1, spellN it.2)) tailL := (seqT_tail _ _).symm
  have hll : (textB k ts ++ tailL).length = (textB k ts).length + 5 := by rw [List.length_append]; rfl
  obtain ⟨us, hs, he⟩ := scan_seq (itB k 0 ts) tailL ((textB k ts ++ tailL).length + 1) 0 [] (fun it hi => ⟨(itB_mem k ts 0 it hi).1, (itB_mem k ts 0 it hi).2.1⟩)
    (fun it hi => by have h := itB_mem k ts 0 it (List.mem_of_mem_drop hi); exact ⟨h.2.2.1, h.2.2.2.1⟩) tail_gap (.inr ⟨32, _, rfl, by decide⟩) (by rw [itB_len]; simpa using hn) (by rw [← e]; exact Nat.lt_succ_self _)
  rw [← e, List.nil_append] at hs
  refine ⟨us, ?_, by rw [he, itB_er]⟩
  rw [scanL, if_neg (by omega), hs]
end Go.Proofs.YtljdnjidphmkjaaDoor
namespace Go.Proofs.YtljdnjidphmkjaaDoor
open Go Go.RowKit
def smallU (ts : List TokM) : Prop := ∀ t ∈ ts, t.text.size ≤ 2000000 ∧ -9223372036854775808 ≤ t.num ∧ t.num ≤ 9223372036854775807
theorem textsU_small {ts : List TokM} (h : smallU ts) : ∀ x ∈ textsN ts, x.length ≤ 4000040 := fun x hx => by
  obtain ⟨t, ht, rfl⟩ := List.mem_map.1 (List.mem_filter.1 hx).1
  have h1 := spellN_len t
  have h2 := (h t ht).1
  omega
theorem joinU_len {ts : List TokM} (h : smallU ts) (hn : ts.length ≤ 1000) : (joinN ts).length ≤ 4000041000 := by
  have h1 := glue_len (textsN ts)
  have h2 := sum_len _ _ (textsU_small h)
  have h3 := textsN_len ts
  have h4 : (textsN ts).length * (4000040 + 1) ≤ 1000 * (4000040 + 1) := Nat.mul_le_mul_right _ (by omega)
  unfold joinN
  omega
set_option maxRecDepth 100000 in
set_option maxHeartbeats 8000000 in
theorem lexJoinU_any (A : Option Addr) (ts : List TokM) (n c : Nat) (w : World) (hm : Marks w) (hn : ts.length = n) (hn9 : n ≤ 1000) (hl : ToksAt w A ts) (hsm : smallU ts) :
    Calls Tryd.prog 17 #[.slice A n c] w fun e w' => e = .returned (.string (toS (joinN ts))) ∧ Below w.heap.size w w' := by
  have HM := Lib.hid hm
  have HN := Lib.hid hn
  have HL := Lib.hid hl
  have HSM := Lib.hid hsm
  obtain ⟨i0, hi0, hz0, hz1, hz2⟩ := info_parts infoStr
  clear hm hn hl hsm
  go_enter Tryd.func17, Tryd.ntmps17
  go_wp2_with fail
  go_loopw [3, 9] (fun lv jv wr => ∃ j m : Nat, j ≤ n ∧ m ≤ j ∧ jv = .int .i64 (j : Int) ∧ (textsN (ts.take j)).length = m ∧ wr.ownsRow w.heap.size 9 1 lv m (strVs (textsN (ts.take j))) ∧ Below w.heap.size w wr) (fun _ jv _ => n - (intOf jv).toNat)
  case atStart => exact ⟨0, 0, Nat.zero_le _, Nat.le_refl _, rfl, rfl, World.ownsRow_nil _ _ _ _, Below.refl _ _⟩
  case round =>
    obtain ⟨j, m, hj, hmj, rfl, hmm, hown, hbel⟩ := hrel
    have HOW := Lib.hid hown
    have HBE := Lib.hid hbel
    have HMM := Lib.hid hmm
    clear hown hbel hmm
    by_cases hlt : j < n
    · have hjl : j < ts.length := by rw [HN.out]; exact hlt
      obtain ⟨b, o, rfl, _, x0, x1, x2, x3⟩ := (HL.out.below HBE.out).at hjl
      have hi0' : (0 : Int) ≤ (j : Int) := by omega
      have hi1' : (j : Int) < (n : Int) := by omega
      have htk : ts.take (j + 1) = ts.take j ++ [ts[j]] := by rw [List.take_succ_eq_append_getElem hjl]
      have HTX := Lib.hid (textsN_snoc (ts.take j) ts[j])
      rw [← htk] at HTX
      obtain ⟨q1, q2, q3⟩ := HSM.out ts[j] (List.getElem_mem hjl)
      have hspl := spellN_len ts[j]
      have HSP := Lib.hid (fun (W : World) (hW : Marks W) => lexSpell_any ts[j].kind ts[j].num ts[j].pos ts[j].text W hW (by omega) ⟨q2, q3⟩)
      obtain ⟨t, ht⟩ : ∃ t, t = ts[j] := ⟨_, rfl⟩
      rw [← ht] at x0 x1 x2 x3 HTX HSP hspl q1
      obtain ⟨X, hX⟩ : ∃ X, X = spellN t := ⟨_, rfl⟩
      have HSP2 := Lib.hid (fun (W : World) (hW : Marks W) => show Calls Tryd.prog 13 #[tokV t.kind t.text t.num t.pos] W fun e w' => e = .returned (.string (toS X)) ∧ Below W.heap.size W w' by rw [hX]; exact HSP.out W hW)
      rw [← hX] at HTX hspl
      have HXB : Hid (Bytes X) := Lib.hid (by rw [hX]; exact spellN_bytes t)
      obtain ⟨k0, s0, n0, p0⟩ := t
      simp only at x0 x1 x2 x3 HSP2 hspl q1
      have HMA := Lib.hid (fun c : Array Value => HM.out.below (HBE.out.alloc HBE.out.size (.cells c 34)))
      have HBA := Lib.hid (fun c : Array Value => HBE.out.alloc HBE.out.size (.cells c 34))
      have HOA := Lib.hid (fun c : Array Value => HOW.out.alloc (.cells c 34))
      clear ht htk hjl HSP hX q2 q3
      go_wp2_with fail
      refine (HSP2.out _ (HMA.out _)).mono ?_
      rintro e w2 ⟨rfl, hb2⟩
      have HB2 := Lib.hid ((HBA.out _).trans (hb2.mono (HBA.out _).size))
      have HOW2 := Lib.hid ((HOA.out _).kept (row := none) (grownBy_of_below hb2 none) (Classical.em _))
      have hsz2 : w.heap.size ≤ w2.heap.size := HB2.out.size
      clear hb2
      by_cases h0 : X = []
      · rw [if_pos h0, List.append_nil] at HTX
        have hs0 : toS X = ⟨#[]⟩ := by rw [h0]; rfl
        rw [hs0]
        clear hs0 h0
        go_wp2_with fail
        go_roundw
        case rel => exact ⟨j + 1, m, by omega, by omega, by go_num, by rw [HTX.out]; exact HMM.out, by rw [HTX.out]; exact HOW2.out, HB2.out⟩
        case measure => simp [intOf]; omega
      · rw [if_neg h0] at HTX
        have hus : (toS X).size ≠ 0 := by rw [size_toS]; exact fun e => h0 (List.eq_nil_of_length_eq_zero e)
        obtain ⟨b1, b2⟩ := ne_of_size hus
        have hU2 : (toS X).size ≤ 9223372036854775807 := by rw [size_toS]; omega
        obtain ⟨U, hU⟩ : ∃ U, U = toS X := ⟨_, rfl⟩
        rw [← hU] at b1 b2 hU2 ⊢
        have HU := Lib.hid hU
        clear h0 hus hU
        go_wp2_with (at_builtin; refine wpList_append_own _ rfl _ _ 41 rfl w.heap.size 9 i0 (.string ByteArray.empty) 1 16 Tryd.underlying41 hi0 hz0 hz1 hz2 rfl (by decide) _ m _ rfl (HOW2.out.alloc _) ⟨w2.heap.size, 0, none⟩ 1 1 [.string U] rfl rfl ?c1 ?c2 ?c3 ?c4 ?c5 ?_)
        case c1 => intro i u hi; match i, hi with | 0, hi => simp at hi; subst hi; simp [Addr.add]
        case c2 => intro u hu; simp at hu; subst hu; rfl
        case c3 => unfold maxLen; omega
        case c4 => omega
        case c5 => simp; omega
        intro v' w4 hown' hgr _
        have HF : Hid (w4.ownsRow w.heap.size 9 1 v' (m + 1) (strVs (textsN (ts.take (j + 1)))) ∧ Below w.heap.size w w4) := Lib.hid ⟨by rw [HTX.out, strVs_snoc, ← HU.out]; exact hown',
          (HB2.out.alloc hsz2 _).grown hgr (by simp; omega) (own_ge HOW2.out)⟩
        have HL2 : Hid ((textsN (ts.take (j + 1))).length = m + 1) := Lib.hid (by rw [HTX.out, List.length_append, HMM.out]; rfl)
        clear hown' hgr
        go_wp2_with fail
        go_roundw
        case rel => exact ⟨j + 1, m + 1, by omega, by omega, by go_num, HL2.out, HF.out.1, HF.out.2⟩
        case measure => simp [intOf]; omega
    · obtain rfl : j = n := by omega
      have hall : ts.take j = ts := by rw [← HN.out]; exact List.take_length
      have hown := HOW.out
      have hlen := HMM.out
      rw [hall] at hown hlen
      have hi1' : ¬ (j : Int) < (j : Int) := by omega
      obtain ⟨A', c', rfl, hcall⟩ := join_own (textsN ts) wr hlen (textsN_bytes ts) (by have := joinU_len HSM.out (by rw [HN.out]; exact hn9); unfold joinN at this; omega) (by omega) hown
      have HJC := Lib.hid hcall
      have HJN : Hid (toS (joinN ts) = toS (glue (textsN ts))) := Lib.hid rfl
      clear hlt hall hown hcall hlen
      go_wp2_with fail
      refine HJC.out.mono ?_
      rintro e w2 ⟨rfl, hb⟩
      have HB2 := Lib.hid (HBE.out.trans (hb.mono HBE.out.size))
      clear hb
      go_wp2_with fail
      go_ret
      rw [HJN.out]
      exact ⟨rfl, HB2.out⟩end Go.Proofs.YtljdnjidphmkjaaDoor
