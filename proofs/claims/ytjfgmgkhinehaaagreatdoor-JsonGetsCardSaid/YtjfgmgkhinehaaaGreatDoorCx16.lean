/- JpClone, JpCoded, JpQuoted, JpNumber: merged. -/
import Derived.Maps.Range
import Derived.Test.YtjfgmgkhinehaaaGreatDoorCx11
import Derived.Test.YtjfgmgkhinehaaaGreatDoorCx15
set_option linter.all false
namespace Go.Proofs.YtjfgmgkhinehaaaGreatDoor
open Go Go.RowKit
/-- The cells of values that lie one behind the other. -/
theorem RepCS.flat {W : World} {S : Nat → Prop} {b : Nat} : ∀ {l : List J} {o : Nat}, RepCS W S b o l → ∃ xs, FlatJ W S l xs ∧ (∀ j u, xs[j]? = some u → W.cell? ⟨b, o + j, none⟩ = some u) ∧ ∀ u ∈ xs, u.oneCell' = true
  | [], o, _ => ⟨[], rfl, by simp, by simp⟩
  | x :: r, o, h => by
    rw [RepCS] at h
    obtain ⟨⟨v, hv, hf⟩, hr⟩ := h
    obtain ⟨xs, h1, h2, h3⟩ := hr.flat
    obtain ⟨a0, a1, a2, a3, a4, rfl, c0, c1, c2, c3, c4⟩ := hf
    have hop := hv.open
    obtain ⟨vk, A, c, e, _, ⟨K, d, ek, _⟩, _⟩ := hop
    simp only [Value.agg.injEq, Array.mk.injEq, List.cons.injEq, and_true] at e
    obtain ⟨e0, e1, e2, e3, e4⟩ := e
    refine ⟨a0 :: a1 :: a2 :: a3 :: a4 :: xs, ⟨a0, a1, a2, a3, a4, xs, rfl, hv, h1⟩, fun j u hu => ?_, fun u hu => ?_⟩
    · match j, hu with
      | 0, hu => injection hu with hu; rw [← hu]; exact c0
      | 1, hu => injection hu with hu; rw [← hu]; exact c1
      | 2, hu => injection hu with hu; rw [← hu]; exact c2
      | 3, hu => injection hu with hu; rw [← hu]; exact c3
      | 4, hu => injection hu with hu; rw [← hu]; exact c4
      | j + 5, hu =>
        have := h2 j u (by simpa using hu)
        rwa [show o + 5 + j = o + (j + 5) by omega] at this
    · simp only [List.mem_cons] at hu
      rcases hu with rfl | rfl | rfl | rfl | rfl | hu
      · rw [e0]; rfl
      · rw [e1]; rfl
      · rw [e2]; rfl
      · rw [e3]; rfl
      · rw [e4, ek]; rfl
      · exact h3 u hu
theorem FlatJ.append {S : Nat → Prop} {W : World} : ∀ {l m : List J} {xs ys : List Value}, FlatJ W S l xs → FlatJ W S m ys → FlatJ W S (l ++ m) (xs ++ ys)
  | [], m, xs, ys, h, k => by obtain rfl : xs = [] := h; exact k
  | x :: r, m, xs, ys, h, k => by
    obtain ⟨a0, a1, a2, a3, a4, zs, rfl, h1, h2⟩ := h
    exact ⟨a0, a1, a2, a3, a4, zs ++ ys, rfl, h1, h2.append k⟩
/-- Where cloneAll stands: the first j of the values are new, the others are not yet. -/
structure CInv (W wr : World) (S : Nat → Prop) (l : List J) (j g cap : Nat) (ys zs : List Value) : Prop where
  own : wr.ownsRow W.heap.size 27 5 (.slice (some ⟨g, 0, none⟩) l.length cap) l.length (ys ++ zs)
  new : FlatJ wr (fun b => W.heap.size ≤ b ∧ b ≠ g) (l.take j) ys
  old : FlatJ wr S (l.drop j) zs
  bel : Below W.heap.size W wr
/-- One value more is new. -/
theorem CInv.step {W wr w4 : World} {S : Nat → Prop} (hS : ∀ b, S b → b < W.heap.size) {l : List J} {j g cap : Nat} {ys zs : List Value} {z0 z1 z2 z3 z4 c0 c1 c2 c3 c4 : Value} {x : J} (hj : j < l.length) (hx : l[j] = x) (h : CInv W wr S l j g cap ys (z0 :: z1 :: z2 :: z3 :: z4 :: zs))
    (hb : Below wr.heap.size wr w4) (hr : RepS w4 (fun b => wr.heap.size ≤ b) x (.agg #[c0, c1, c2, c3, c4])) :
    CInv W (((((w4.setCell ⟨g, j * 5, none⟩ c0).setCell ⟨g, j * 5 + 1, none⟩ c1).setCell ⟨g, j * 5 + 2, none⟩ c2).setCell ⟨g, j * 5 + 3, none⟩ c3).setCell ⟨g, j * 5 + 4, none⟩ c4) S l (j + 1) g cap (ys ++ [c0, c1, c2, c3, c4]) zs := by
  have hyl : ys.length = j * 5 := by rw [h.new.length, List.length_take, Nat.min_eq_left (by omega)]
  have own4 : w4.ownsRow W.heap.size 27 5 (.slice (some ⟨g, 0, none⟩) l.length cap) l.length (ys ++ z0 :: z1 :: z2 :: z3 :: z4 :: zs) := h.own.kept (grownBy_of_below hb none) (.inr (by simp [Value.ownBlock]))
  have glt : g < wr.heap.size := (h.own.lt g rfl).2
  have gge : W.heap.size ≤ g := (h.own.lt g rfl).1
  have h1 := own4.stored (j * 5) c0
  have h2 := h1.1.stored (j * 5 + 1) c1
  have h3 := h2.1.stored (j * 5 + 2) c2
  have h4 := h3.1.stored (j * 5 + 3) c3
  have h5 := h4.1.stored (j * 5 + 4) c4
  have e : (((((ys ++ z0 :: z1 :: z2 :: z3 :: z4 :: zs).set (j * 5) c0).set (j * 5 + 1) c1).set (j * 5 + 2) c2).set (j * 5 + 3) c3).set (j * 5 + 4) c4 = (ys ++ [c0, c1, c2, c3, c4]) ++ zs := by
    rw [← hyl]
    simp [List.set_append]
  rw [e] at h5
  have hg : w4.grownBy _ (some g) := (((h1.2.trans h2.2).trans h3.2).trans h4.2).trans h5.2
  generalize ((((w4.setCell ⟨g, j * 5, none⟩ c0).setCell ⟨g, j * 5 + 1, none⟩ c1).setCell ⟨g, j * 5 + 2, none⟩ c2).setCell ⟨g, j * 5 + 3, none⟩ c3).setCell ⟨g, j * 5 + 4, none⟩ c4 = w6 at h5 hg ⊢
  have hwr := h.bel.size
  have key : ∀ b, b < wr.heap.size → b ≠ g → w6.heap[b]? = wr.heap[b]? := fun b h1 h2 => (hg.block b (Nat.lt_of_lt_of_le h1 hb.size) (by intro e; injection e with e; exact h2 e)).trans (hb.block b h1)
  have hsz : wr.heap.size ≤ w6.heap.size := Nat.le_trans hb.size hg.size
  refine ⟨h5.1, ?_, ?_, ⟨hg.os.trans (hb.os.trans h.bel.os), hg.tape.trans (hb.tape.trans h.bel.tape), hg.output.trans (hb.output.trans h.bel.output), Nat.le_trans hwr hsz, fun i hi => (key i (by omega) (by omega)).trans (h.bel.block i hi)⟩⟩
  · rw [List.take_succ_eq_append_getElem hj, hx]
    refine FlatJ.append (h.new.keeps ⟨hsz, fun b hb1 hl => key b hl hb1.2⟩ (fun b hb _ => hb)) ?_
    refine ⟨c0, c1, c2, c3, c4, [], rfl, ?_, rfl⟩
    refine RepS.keeps (S := fun b => wr.heap.size ≤ b) ⟨hg.size, fun b (h1 : _ ≤ b) hl => hg.block b hl (by intro e; injection e with e; omega)⟩ (fun b (h1 : _ ≤ b) _ => ⟨by omega, by omega⟩) _ _ hr
  · have hd : l.drop j = x :: l.drop (j + 1) := by rw [List.drop_eq_getElem_cons hj, hx]
    have ho := h.old
    rw [hd] at ho
    obtain ⟨a0, a1, a2, a3, a4, vs, e2, _, h6⟩ := ho
    injection e2 with _ e2; injection e2 with _ e2; injection e2 with _ e2; injection e2 with _ e2; injection e2 with _ e2
    rw [e2]
    exact h6.keeps ⟨hsz, fun b hb1 hl => key b hl (fun e => by have := hS b hb1; omega)⟩ (fun b hb _ => hb)
end Go.Proofs.YtjfgmgkhinehaaaGreatDoor
namespace Go.Proofs.YtjfgmgkhinehaaaGreatDoor
open Go Go.RowKit
/-- What is read behind a \. -/
def EscTells (w : World) (rb : Nat) (s : ByteArray) (n : Int) (r : List Int × Nat × Int) (e : Ending) (w' : World) : Prop :=
  (r.2.2 = 0 ∧ e = .returned (.string (toS r.1)) ∧ Moved w w' rb s (r.2.1 : Nat) n) ∨ (r.2.2 ≠ 0 ∧ Gives w rb (r.2.1 : Nat) r.2.2 e w')
theorem EscTells.bad {w : World} {rb : Nat} {s : ByteArray} {n : Int} {r : List Int × Nat × Int} {e : Ending} {w' : World} {l : List Int} {p : Nat} (hr : r = (l, p, 50)) (h : Gives w rb p 50 e w') : EscTells w rb s n r e w' := by
  rw [hr]; exact .inr ⟨show (50 : Int) ≠ 0 by decide, h⟩
theorem EscTells.ok {w : World} {rb : Nat} {s : ByteArray} {n : Int} {r : List Int × Nat × Int} {e : Ending} {w' : World} {l : List Int} {p : Nat} (hr : r = (l, p, 0)) (he : e = .returned (.string (toS l))) (h : Moved w w' rb s p n) : EscTells w rb s n r e w' := by
  rw [hr]; exact .inl ⟨rfl, he, h⟩
set_option maxRecDepth 100000 in
set_option maxHeartbeats 4000000 in
theorem coded_any (rb : Nat) (s : ByteArray) (i : Nat) (n : Int) (w : World) (h : Rdr w rb s (i + 2 : Nat) n) (hg : GW w rb) (hi : i + 1 < s.size) (hs : s.size ≤ 1000000) :
    Calls Tryz.prog 190 #[.pointer (some ⟨rb, 0, none⟩), .int .i64 (i : Int)] w (EscTells w rb s n (codL (strL s) i)) := by
  have HLEN := Lib.hid (length_strL s)
  have HR := Lib.hid h
  have HG := Lib.hid hg
  obtain ⟨⟨c0, c1, c2⟩, f0, f1, f2⟩ := h.cells
  obtain ⟨t, ht⟩ : ∃ t, t = s.extract (i + 2) s.size := ⟨_, rfl⟩
  have htl : strL t = (strL s).drop (i + 2) := by rw [ht, strL_rest]
  have hts : t.size ≤ s.size := by rw [ht]; simp [ByteArray.size_extract]
  have HLC := Lib.hid (fun W : World => leadCode_q t W (by omega))
  have e1 : ldL (strL t) 4 0 0 = ldL (strL s) 4 (i + 2) 0 := by rw [htl, ldL_drop]
  rw [e1] at HLC
  have hcod := codL_ld (strL s) i (by rw [HLEN.out]; exact hi)
  have hb := ld4_bd (strL s) (i + 2)
  have hle := (ldL_le (strL s) 4 (i + 2) 0).2 (by rw [HLEN.out]; omega)
  rw [HLEN.out] at hle
  obtain ⟨R, hR⟩ : ∃ R, R = codL (strL s) i := ⟨_, rfl⟩
  rw [← hR] at hcod ⊢
  obtain ⟨x, hx⟩ : ∃ x, x = (ldL (strL s) 4 (i + 2) 0).1 := ⟨_, rfl⟩
  obtain ⟨y, hy⟩ : ∃ y, y = (ldL (strL s) 4 (i + 2) 0).2 := ⟨_, rfl⟩
  rw [← hx, ← hy] at HLC hcod hb
  rw [← hy] at hle
  obtain ⟨hb0, hb1, hb2, hb3⟩ := hb
  have b0 : (0 : Int) ≤ ((i + 2 : Nat) : Int) := by omega
  have b1 : ((i + 2 : Nat) : Int) ≤ (s.size : Int) := by omega
  have b2 : ((i + 2 : Nat) : Int).toNat = i + 2 := by omega
  obtain ⟨I, hI⟩ : ∃ I, I = i + 2 := ⟨_, rfl⟩
  rw [← hI] at c1 b0 b1 b2 HR ht hle
  have HT := Lib.hid ht
  have HI := Lib.hid hI
  have hI2 : I ≤ 1000000 := by omega
  have HCOD := Lib.hid hcod
  clear h hg hx hy e1 htl hts ht hI hR hcod hi hb2
  by_cases h4 : y ≠ 4
  · have HB : Hid (R = ([], I + y, 50)) := Lib.hid (by rw [HCOD.out, if_pos h4, HI.out])
    have hlt : (y : Int) < 4 := by omega
    clear h4
    go_enter Tryz.func190, Tryz.ntmps190
    go_wp2
    go_quiet ((go_at_call 207; rw [← HT.out]; exact Calls.quiet_of_same (HLC.out _)))
    go_wp2_with (go_at_call 113; (with_reducible refine (giveUp_any _ _ _).mono ?_); rintro e w' ⟨rfl, rfl⟩)
    refine ⟨rfl, EscTells.bad HB.out ⟨?_, grown_set w _ rb 1 _⟩⟩
    rw [show ((I + y : Nat) : Int) = (I : Int) + (y : Int) by omega]
  · obtain rfl : y = 4 := by omega
    have HC1 : Hid (R = if 56320 ≤ x ∧ x < 57344 then ([], i, 50) else if 55296 ≤ x ∧ x < 56320 then (if halfL (strL s) i < 56320 ∨ 57343 < halfL (strL s) i then ([], i, 50) else (putL (65536 + (x - 55296) * 1024 + halfL (strL s) i - 56320), i + 12, 0)) else (putL x, i + 6, 0)) := Lib.hid (HCOD.out.trans (if_neg h4))
    clear h4
    by_cases hlo : 56320 ≤ x ∧ x < 57344
    · have HB : Hid (R = ([], i, 50)) := Lib.hid (HC1.out.trans (if_pos hlo))
      obtain ⟨a0, a1⟩ := hlo
      go_enter Tryz.func190, Tryz.ntmps190
      go_wp2
      go_quiet ((go_at_call 207; rw [← HT.out]; exact Calls.quiet_of_same (HLC.out _)))
      go_wp2_with (go_at_call 113; (with_reducible refine (giveUp_any _ _ _).mono ?_); rintro e w' ⟨rfl, rfl⟩)
      exact ⟨rfl, EscTells.bad HB.out ⟨rfl, grown_set w _ rb 1 _⟩⟩
    · have HC2 : Hid (R = if 55296 ≤ x ∧ x < 56320 then (if halfL (strL s) i < 56320 ∨ 57343 < halfL (strL s) i then ([], i, 50) else (putL (65536 + (x - 55296) * 1024 + halfL (strL s) i - 56320), i + 12, 0)) else (putL x, i + 6, 0)) := Lib.hid (HC1.out.trans (if_neg hlo))
      by_cases hhi : 55296 ≤ x ∧ x < 56320
      · obtain ⟨a0, a1⟩ := hhi
        have a2 : decide (56320 ≤ x) = false := decide_eq_false (by omega)
        have HC3 : Hid (R = if halfL (strL s) i < 56320 ∨ 57343 < halfL (strL s) i then ([], i, 50) else (putL (65536 + (x - 55296) * 1024 + halfL (strL s) i - 56320), i + 12, 0)) := Lib.hid (HC2.out.trans (if_pos ⟨a0, a1⟩))
        by_cases hh : halfL (strL s) i < 56320 ∨ 57343 < halfL (strL s) i
        · have HB : Hid (R = ([], i, 50)) := Lib.hid (HC3.out.trans (if_pos hh))
          have HLH := Lib.hid (fun (W : World) (hr : Rdr W rb s (i + 6 : Nat) n) => lowHalf_no rb s i n W hr (by have := HI.out; omega) hs hh)
          clear hh hlo
          go_enter Tryz.func190, Tryz.ntmps190
          go_wp2
          go_quiet ((go_at_call 207; rw [← HT.out]; exact Calls.quiet_of_same (HLC.out _)))
          have hr6 : Rdr ((w.drewN nq).setCell ⟨rb, 1, none⟩ (.int .i64 ((I : Int) + 4))) rb s (i + 6 : Nat) n := by
            rw [show ((i + 6 : Nat) : Int) = (I : Int) + 4 by have := HI.out; omega]; exact Rdr.goes (HR.out.drewN nq) _
          have HR6 := Lib.hid (HLH.out _ hr6)
          clear hr6
          go_wp2_with (go_at_call 208; (with_reducible refine HR6.out.mono ?_); rintro e w2 ⟨rfl, hgr⟩; have HG2 := Lib.hid hgr; clear hgr)
          exact ⟨rfl, EscTells.bad HB.out ⟨rfl, (grown_set w _ rb 1 _).trans HG2.out⟩⟩
        · have HB : Hid (R = (putL (65536 + (x - 55296) * 1024 + halfL (strL s) i - 56320), i + 12, 0)) := Lib.hid (HC3.out.trans (if_neg hh))
          have HLH := Lib.hid (fun (W : World) (hr : Rdr W rb s (i + 6 : Nat) n) => lowHalf_yes rb s i n W hr (by have := HI.out; omega) hs hh)
          have hh0 : 56320 ≤ halfL (strL s) i := by omega
          have hh1 : halfL (strL s) i ≤ 57343 := by omega
          obtain ⟨y, hy⟩ : ∃ y, y = halfL (strL s) i := ⟨_, rfl⟩
          rw [← hy] at HLH HB hh0 hh1
          clear hh hlo hy
          go_enter Tryz.func190, Tryz.ntmps190
          go_wp2
          go_quiet ((go_at_call 207; rw [← HT.out]; exact Calls.quiet_of_same (HLC.out _)))
          have hr6 : Rdr ((w.drewN nq).setCell ⟨rb, 1, none⟩ (.int .i64 ((I : Int) + 4))) rb s (i + 6 : Nat) n := by
            rw [show ((i + 6 : Nat) : Int) = (I : Int) + 4 by have := HI.out; omega]; exact Rdr.goes (HR.out.drewN nq) _
          have HR6 := Lib.hid (HLH.out _ hr6)
          have HGW := Lib.hid (HG.out.grown (grown_set w nq rb 1 (.int .i64 ((I : Int) + 4))))
          have HGS := Lib.hid (grown_set w nq rb 1 (.int .i64 ((I : Int) + 4)))
          clear hr6
          go_wp2_with (first | (go_at_call 208; (with_reducible refine HR6.out.mono ?_); rintro e w2 ⟨rfl, hgr, hr2⟩; have HG2 := Lib.hid (HGS.out.trans hgr); have HR2 := Lib.hid hr2; have HPUT := Lib.hid (fun v => put_any v w2 (HGW.out.grown hgr).1); clear hgr hr2) | (go_at_call 209; (with_reducible refine (HPUT.out _).mono ?_); rintro e w3 ⟨rfl, hb3⟩; have HB3 := Lib.hid hb3; clear hb3))
          go_ret
          have HB2 : Hid (R = (putL (65536 + (x - 55296) * 1024 + (y - 56320)), i + 12, 0)) := Lib.hid (by rw [show 65536 + (x - 55296) * 1024 + (y - 56320) = 65536 + (x - 55296) * 1024 + y - 56320 by omega]; exact HB.out)
          exact EscTells.ok HB2.out rfl ⟨HG2.out.trans (grownBy_of_below HB3.out _), Blk.below HR2.out HB3.out HR2.out.lt⟩
      · have HB : Hid (R = (putL x, i + 6, 0)) := Lib.hid (HC2.out.trans (if_neg hhi))
        have hx : x < 55296 ∨ 57344 ≤ x := by omega
        obtain ⟨A, B, hA, hB, hAB⟩ : ∃ A B : Bool, decide (56320 ≤ x) = A ∧ decide (55296 ≤ x) = B ∧ ((A = false ∧ B = false) ∨ (A = true ∧ B = true ∧ decide (x < 57344) = false ∧ decide (x < 56320) = false)) := by
          refine ⟨_, _, rfl, rfl, ?_⟩
          rcases hx with hx | hx
          · exact .inl ⟨decide_eq_false (by omega), decide_eq_false (by omega)⟩
          · exact .inr ⟨decide_eq_true (by omega), decide_eq_true (by omega), decide_eq_false (by omega), decide_eq_false (by omega)⟩
        clear hlo hhi hx
        rcases hAB with ⟨rfl, rfl⟩ | ⟨rfl, rfl, hC, hD⟩
        all_goals
          go_enter Tryz.func190, Tryz.ntmps190
          go_wp2
          go_quiet ((go_at_call 207; rw [← HT.out]; exact Calls.quiet_of_same (HLC.out _)))
          have hr6 : Rdr ((w.drewN nq).setCell ⟨rb, 1, none⟩ (.int .i64 ((I : Int) + 4))) rb s (i + 6 : Nat) n := by
            rw [show ((i + 6 : Nat) : Int) = (I : Int) + 4 by have := HI.out; omega]; exact Rdr.goes (HR.out.drewN nq) _
          have HR6 := Lib.hid hr6
          have HPUT := Lib.hid (fun v => put_any v _ (HG.out.grown (grown_set w nq rb 1 (.int .i64 ((I : Int) + 4)))).1)
          clear hr6
          go_wp2_with (go_at_call 209; (with_reducible refine (HPUT.out _).mono ?_); rintro e w3 ⟨rfl, hb3⟩; have HB3 := Lib.hid hb3; clear hb3)
          go_ret
          exact EscTells.ok HB.out rfl ⟨(grown_set w _ rb 1 _).trans (grownBy_of_below HB3.out _), Blk.below HR6.out HB3.out HR6.out.lt⟩
end Go.Proofs.YtjfgmgkhinehaaaGreatDoor
namespace Go.Proofs.YtjfgmgkhinehaaaGreatDoor
open Go Go.RowKit
theorem beq_neI {a b : Int} (h : a ≠ b) : (a == b) = false ∧ (a != b) = true := by
  have : (a == b) = false := by rw [beq_eq_false_iff_ne]; exact h
  exact ⟨this, by rw [bne, this]; rfl⟩
theorem plainL_ah (l : List Int) (i : Nat) : plainL (ahL l i) = plainL (atL l i) := by
  unfold ahL; split
  · rename_i h; rw [h]; decide
  · rfl
theorem toS_ne {l : List Int} (h : l ≠ []) : ((toS l).toList == []) = false := by
  rw [beq_eq_false_iff_ne]
  intro e
  refine h ?_
  have h2 : (toS l).size = 0 := by rw [ByteArray.toList_eq] at e; exact congrArg List.length e
  rw [size_toS] at h2
  exact List.eq_nil_of_length_eq_zero h2
theorem rdr_cast {w : World} {rb : Nat} {s : ByteArray} {i j n : Int} (h : Rdr w rb s i n) (e : i = j) : Rdr w rb s j n := e ▸ h
theorem EscTells.after {w w1 w2 : World} {rb : Nat} {s : ByteArray} {n : Int} {r : List Int × Nat × Int} {e : Ending} (h1 : w.grownBy w1 (some rb)) (h : EscTells w1 rb s n r e w2) : EscTells w rb s n r e w2 :=
  h.imp (fun h => ⟨h.1, h.2.1, h1.trans h.2.2.1, h.2.2.2⟩) (fun h => ⟨h.1, h.2.1, h1.trans h.2.2⟩)
/-- What a call tells that hands on what another tells. -/
theorem EscTells.cases {w : World} {rb : Nat} {s : ByteArray} {n : Int} {r : List Int × Nat × Int} {e : Ending} {w' : World} (h : EscTells w rb s n r e w') : (r.2.2 = 0 ∧ e = .returned (.string (toS r.1)) ∧ Moved w w' rb s (r.2.1 : Nat) n) ∨ (r.2.2 ≠ 0 ∧ e = .panicked (flt (r.2.1 : Nat) r.2.2) ∧ w.grownBy w' (some rb)) := h
set_option maxRecDepth 100000 in
set_option maxHeartbeats 4000000 in
theorem escaped_any (rb : Nat) (s : ByteArray) (i : Nat) (n : Int) (w : World) (h : Rdr w rb s i n) (hg : GW w rb) (hi : i < s.size) (hs : s.size ≤ 1000000) :
    Calls Tryz.prog 167 #[.pointer (some ⟨rb, 0, none⟩)] w (EscTells w rb s n (escL (strL s) i)) := by
  have HLEN := Lib.hid (length_strL s)
  have HR := Lib.hid h
  have HG := Lib.hid hg
  obtain ⟨⟨c0, c1, c2⟩, f0, f1, f2⟩ := h.cells
  have hr1 : Rdr (w.setCell ⟨rb, 1, none⟩ (.int .i64 ((i : Int) + 1))) rb s (i + 1 : Nat) n := Rdr.goes h _
  have HR1 := Lib.hid hr1
  have HA := Lib.hid (ahead_any rb s (i + 1) n _ hr1 hi hs)
  have hb := ahL_bd s (i + 1)
  obtain ⟨R, hR⟩ : ∃ R, R = escL (strL s) i := ⟨_, rfl⟩
  have hesc : R = if atL (strL s) (i + 1) ≠ 117 then (if plainL (ahL (strL s) (i + 1)) = [] then ([], i + 1, 50) else (plainL (ahL (strL s) (i + 1)), i + 2, 0)) else codL (strL s) i := by rw [hR, plainL_ah]; rfl
  rw [← hR]
  clear h hg hr1 hR
  by_cases hu : atL (strL s) (i + 1) = 117
  · have hlt : i + 1 < s.size := by rw [← HLEN.out]; exact atL_lt (by omega)
    have HE : Hid (R = codL (strL s) i) := Lib.hid (hesc.trans (if_neg (fun h => h hu)))
    rw [(ahL_at (by decide)).2 hu] at HA
    have HCO := Lib.hid (fun (W : World) (hr : Rdr W rb s (i + 2 : Nat) n) (hg : GW W rb) => coded_any rb s i n W hr hg hlt hs)
    clear hesc hu hb
    rw [HE.out]
    clear HE
    go_enter Tryz.func167, Tryz.ntmps167
    go_wp2_with (go_at_call 140; (with_reducible refine HA.out.mono ?_); rintro e w' ⟨rfl, q, rfl⟩)
    refine (HCO.out _ (rdr_cast (Rdr.goes (HR1.out.drewN q) _) (by omega)) (HG.out.grown ((grownBy_setCell w rb 1 _).trans (grown_set _ q rb 1 _)))).mono ?_
    intro e w2 ht
    obtain ⟨C, hC⟩ : ∃ C, C = codL (strL s) i := ⟨_, rfl⟩
    rw [← hC] at ht
    have HT := Lib.hid (ht.after ((grownBy_setCell w rb 1 _).trans (grown_set _ q rb 1 _)))
    rcases ht.cases with ⟨_, rfl, _⟩ | ⟨_, rfl, _⟩
    · clear ht
      go_wp2
      go_ret
      rw [← hC]
      exact HT.out
    · clear ht
      go_wp2
      rw [← hC]
      exact ⟨rfl, HT.out⟩
  · have hu1 : ahL (strL s) (i + 1) ≠ 117 := ahL_ne (by decide) hu
    have HE : Hid (R = if plainL (ahL (strL s) (i + 1)) = [] then ([], i + 1, 50) else (plainL (ahL (strL s) (i + 1)), i + 2, 0)) := Lib.hid (hesc.trans (if_pos hu))
    obtain ⟨x, hx⟩ : ∃ x, x = ahL (strL s) (i + 1) := ⟨_, rfl⟩
    rw [← hx] at HA hb HE hu1
    have HS := Lib.hid (fun W : World => short_any x W hb.1 hb.2)
    obtain ⟨n117, _⟩ := beq_neI hu1
    clear hesc hu hu1 hb hx HR
    by_cases hp : plainL x = []
    · have HB : Hid (R = ([], i + 1, 50)) := Lib.hid (HE.out.trans (if_pos hp))
      rw [hp] at HS
      clear hp HE
      go_enter Tryz.func167, Tryz.ntmps167
      go_wp2_with (first | (go_at_call 140; (with_reducible refine HA.out.mono ?_); rintro e w' ⟨rfl, q, rfl⟩) | (go_at_call 191; (with_reducible refine (HS.out _).mono ?_); rintro e w' ⟨rfl, rfl⟩; rw [show toS [] = (⟨#[]⟩ : ByteArray) from rfl]) | (go_at_call 113; (with_reducible refine (giveUp_any _ _ _).mono ?_); rintro e w' ⟨rfl, rfl⟩))
      exact ⟨rfl, EscTells.bad HB.out ⟨by rw [show ((i + 1 : Nat) : Int) = (i : Int) + 1 by omega], (grownBy_setCell w rb 1 _).trans (grown_drewN q _)⟩⟩
    · have HB : Hid (R = (plainL x, i + 2, 0)) := Lib.hid (HE.out.trans (if_neg hp))
      have hne := toS_ne hp
      obtain ⟨P, hP⟩ : ∃ P, P = toS (plainL x) := ⟨_, rfl⟩
      rw [← hP] at HS hne
      have HP := Lib.hid hP
      clear hp HE hP
      go_enter Tryz.func167, Tryz.ntmps167
      go_wp2_with (first | (go_at_call 140; (with_reducible refine HA.out.mono ?_); rintro e w' ⟨rfl, q, rfl⟩) | (go_at_call 191; (with_reducible refine (HS.out _).mono ?_); rintro e w' ⟨rfl, rfl⟩))
      go_ret
      exact EscTells.ok HB.out (by rw [← HP.out]; rfl) ⟨(grownBy_setCell w rb 1 _).trans (grown_set _ q rb 1 _), rdr_cast (Rdr.goes (HR1.out.drewN q) _) (by omega)⟩
end Go.Proofs.YtjfgmgkhinehaaaGreatDoor
namespace Go.Proofs.YtjfgmgkhinehaaaGreatDoor
open Go Go.RowKit
/-- What the reader tells of a number. -/
def NumTells (w : World) (rb : Nat) (s : ByteArray) (i : Nat) (n : Int) (e : Ending) (w' : World) : Prop :=
  (leadL ((strL s).drop i) = 0 ∧ Gives w rb (i + 1 : Nat) 50 e w') ∨
  (leadL ((strL s).drop i) ≠ 0 ∧ fitL (((strL s).drop i).take (leadL ((strL s).drop i))) (-9007199254740991) 9007199254740991 = false ∧ Gives w rb i 41 e w') ∨
  (leadL ((strL s).drop i) ≠ 0 ∧ fitL (((strL s).drop i).take (leadL ((strL s).drop i))) (-9007199254740991) 9007199254740991 = true ∧ e = .returned (.int .i64 (numL (((strL s).drop i).take (leadL ((strL s).drop i))))) ∧ Moved w w' rb s (i + leadL ((strL s).drop i) : Nat) n)
set_option maxRecDepth 100000 in
set_option maxHeartbeats 4000000 in
theorem number_any (rb : Nat) (s : ByteArray) (i : Nat) (n : Int) (w : World) (h : Rdr w rb s i n) (hi : i ≤ s.size) (hs : s.size ≤ 1000000) :
    Calls Tryz.prog 146 #[.pointer (some ⟨rb, 0, none⟩)] w (NumTells w rb s i n) := by
  have HLEN := Lib.hid (length_strL s)
  have HR := Lib.hid h
  obtain ⟨⟨c0, c1, c2⟩, f0, f1, f2⟩ := h.cells
  have hrlt := h.lt
  obtain ⟨S, hS⟩ : ∃ S, S = s.extract i s.size := ⟨_, rfl⟩
  have hSl : strL S = (strL s).drop i := by rw [hS, strL_rest]
  have hSs : S.size = s.size - i := by rw [hS, ByteArray.size_extract]; omega
  have HSX := Lib.hid hS
  have HLD := Lib.hid (fun W : World => lead_anyN S W (by omega))
  have hle := leadL_le (strL S)
  rw [length_strL] at hle
  have hft := form_lead_take (l := strL S)
  have hT : strL (S.extract 0 (leadL (strL S))) = (strL S).take (leadL (strL S)) := by rw [strL_extract]; rfl
  unfold NumTells
  rw [← hSl]
  obtain ⟨m, hm⟩ : ∃ m, m = leadL (strL S) := ⟨_, rfl⟩
  rw [← hm] at HLD hle hft hT ⊢
  have b0 : (0 : Int) ≤ (i : Int) := by omega
  have b1 : (i : Int) ≤ (s.size : Int) := by omega
  by_cases h0 : m = 0
  · subst h0
    clear h hS hSl hm hft hT hi
    go_enter Tryz.func146, Tryz.ntmps146
    go_wp2
    go_quiet (fail)
    rw [← HSX.out]
    go_wp2_with (first | (go_at_call 172; (with_reducible refine (HLD.out _).mono ?_); rintro e w1 ⟨rfl, hb1⟩; have HB1 := Lib.hid ((below_drewN (Below.refl _ _) _).trans hb1); have hr1 := Blk.below (HR.out.drewN nq) hb1 hrlt; obtain ⟨⟨c0, c1, c2⟩, f0, f1, f2⟩ := Rdr.cells hr1; clear hb1 hr1) | (go_at_call 113; (with_reducible refine (giveUp_any _ _ _).mono ?_); rintro e w' ⟨rfl, rfl⟩))
    exact ⟨rfl, .inl ⟨trivial, by rw [show ((i + 1 : Nat) : Int) = (i : Int) + 1 by omega]; exact ⟨rfl, grownBy_of_below HB1.out _⟩⟩⟩
  · have hf := hft h0
    obtain ⟨T, hTT⟩ : ∃ T, T = S.extract 0 m := ⟨_, rfl⟩
    rw [← hTT] at hT
    rw [← hT] at hf ⊢
    have HT := Lib.hid hTT
    have hTs : T.size ≤ s.size := by rw [hTT, ByteArray.size_extract]; omega
    have HRD := Lib.hid (fun W : World => read_anyN T (-9007199254740991) 9007199254740991 W (by omega) (by omega) (by omega))
    unfold ReadTells at HRD
    rw [hf] at HRD
    have hmS : (m : Int) ≤ (S.size : Int) := by omega
    have hm0 : (0 : Int) ≤ (m : Int) := by omega
    have hm1 : (m : Int) ≤ 1000000 := by omega
    have hmb : ((m : Int) == 0) = false := by rw [beq_eq_false_iff_ne]; omega
    have H0 := Lib.hid h0
    obtain ⟨F, hF⟩ : ∃ F, F = fitL (strL T) (-9007199254740991) 9007199254740991 := ⟨_, rfl⟩
    obtain ⟨x, hx⟩ : ∃ x, x = numL (strL T) := ⟨_, rfl⟩
    rw [← hF, ← hx] at HRD ⊢
    clear h hS hSl hm hft hT hf hTT h0 hF hx hle hSs
    cases F with
    | false =>
      have HRD2 : Hid (∀ W : World, Calls Tryz.prog 173 #[.string T, .int .i64 (-9007199254740991), .int .i64 9007199254740991] W fun e w' => e = .returned (.tuple #[.int .i64 0, .iface 95 (.int .i64 41)]) ∧ Below W.heap.size W w') := Lib.hid (fun W => (HRD.out W).mono fun e w' h => by
        rcases h with ⟨h, _⟩ | ⟨_, _, h⟩ | ⟨_, h, _⟩
        · cases h
        · exact h
        · cases h)
      clear HRD
      go_enter Tryz.func146, Tryz.ntmps146
      go_wp2
      go_quiet (fail)
      rw [← HSX.out]
      go_wp2_with (first | (go_at_call 172; (with_reducible refine (HLD.out _).mono ?_); rintro e w1 ⟨rfl, hb1⟩; have HB1 := Lib.hid ((below_drewN (Below.refl _ _) _).trans hb1)) | (go_at_call 173; rw [← HT.out]; (with_reducible refine (HRD2.out _).mono ?_); rintro e w2 ⟨rfl, hb2⟩; have HB2 := Lib.hid (HB1.out.trans (hb2.mono HB1.out.size)); have hr1 := Blk.below HR.out HB2.out hrlt; obtain ⟨⟨c0, c1, c2⟩, f0, f1, f2⟩ := Rdr.cells hr1; clear hb2 hr1) | (go_at_call 113; (with_reducible refine (giveUp_any _ _ _).mono ?_); rintro e w' ⟨rfl, rfl⟩))
      exact ⟨rfl, .inr (.inl ⟨H0.out, trivial, rfl, grownBy_of_below HB2.out _⟩)⟩
    | true =>
      have HRD2 : Hid (∀ W : World, Calls Tryz.prog 173 #[.string T, .int .i64 (-9007199254740991), .int .i64 9007199254740991] W fun e w' => e = .returned (.tuple #[.int .i64 x, .nilIface]) ∧ Below W.heap.size W w') := Lib.hid (fun W => (HRD.out W).mono fun e w' h => by
        rcases h with ⟨h, _⟩ | ⟨_, h, _⟩ | ⟨_, _, h⟩
        · cases h
        · cases h
        · exact h)
      clear HRD
      go_enter Tryz.func146, Tryz.ntmps146
      go_wp2
      go_quiet (fail)
      rw [← HSX.out]
      go_wp2_with (first | (go_at_call 172; (with_reducible refine (HLD.out _).mono ?_); rintro e w1 ⟨rfl, hb1⟩; have HB1 := Lib.hid ((below_drewN (Below.refl _ _) _).trans hb1)) | (go_at_call 173; rw [← HT.out]; (with_reducible refine (HRD2.out _).mono ?_); rintro e w2 ⟨rfl, hb2⟩; have HB2 := Lib.hid (HB1.out.trans (hb2.mono HB1.out.size)); have hr1 := Blk.below HR.out HB2.out hrlt; have HR1 := Lib.hid hr1; obtain ⟨⟨c0, c1, c2⟩, f0, f1, f2⟩ := Rdr.cells hr1; clear hb2 hr1))
      go_ret
      refine .inr (.inr ⟨H0.out, trivial, rfl, (grownBy_of_below HB2.out _).trans (grownBy_setCell _ rb 1 _), ?_⟩)
      rw [show ((i + m : Nat) : Int) = (i : Int) + (m : Int) by omega]
      exact Rdr.goes HR1.out _
end Go.Proofs.YtjfgmgkhinehaaaGreatDoor
