/- PolCmp, PolBoth, PolAll, PolListS, PolRule: merged. -/
import Derived.Test.YtcjfealalokjaaaGreatDoorPa13
set_option linter.all false
namespace Go.Proofs.YtcjfealalokjaaaGreatDoor
open Go Go.RowKit
theorem cmp_is {opd : List TokM → ResE} (hc : Cuts opd) (r : List TokM) (hr : Ends r) : cmpOf opd r =
    if (opd r).2.2 ≠ 0 then opd r
    else if isT (opd r).2.1 1 wIn = true then (if (itemsR opd ((opd r).2.1.drop 1)).2.2 ≠ 0 then (ex0, (itemsR opd ((opd r).2.1.drop 1)).2) else (.mk 13 E0 0 ((opd r).1 :: (itemsR opd ((opd r).2.1.drop 1)).1) (hdT (opd r).2.1).pos, (itemsR opd ((opd r).2.1.drop 1)).2.1, 0))
    else if (signsT (hdT (opd r).2.1)).1 = 0 then opd r
    else if (opd ((opd r).2.1.drop 1)).2.2 ≠ 0 then opd ((opd r).2.1.drop 1)
    else (.mk (signsT (hdT (opd r).2.1)).1 E0 0 (if (signsT (hdT (opd r).2.1)).2 then [(opd ((opd r).2.1.drop 1)).1, (opd r).1] else [(opd r).1, (opd ((opd r).2.1.drop 1)).1]) (hdT (opd r).2.1).pos, (opd ((opd r).2.1.drop 1)).2.1, 0) := by
  unfold cmpOf
  simp only
  by_cases h1 : (opd r).2.2 ≠ 0
  · rw [if_pos h1, if_pos h1]
  rw [if_neg h1, if_neg h1]
  by_cases h2 : isT (opd r).2.1 1 wIn = true
  · rw [if_pos h2, if_pos h2]
    obtain ⟨k, e1, e2, e3⟩ := hc r hr
    have he : Ends ((opd r).2.1.drop 1) := by rw [e1] at h2 ⊢; exact e2.next h2 (by decide)
    unfold itemsR
    by_cases h3 : isT ((opd r).2.1.drop 1) 4 kLeft = false
    · rw [if_pos h3, if_pos h3, if_pos (show (120 : Int) ≠ 0 by decide)]
    rw [if_neg h3, if_neg h3]
    have he2 := he.next (Bool.not_eq_false _ |>.mp h3) (by decide)
    obtain ⟨j1, j2⟩ := shut_list hc ((opd r).2.1.drop 1) he2 (by have := he.len; rw [List.length_drop (i := 1) (l := (opd r).2.1.drop 1)]; omega)
    rw [← j1]
    by_cases h4 : (itemsGo opd ((opd r).2.1.drop 1)).2.2 ≠ 0
    · rw [if_pos h4, if_pos h4]
    · rw [if_neg h4, if_neg h4, ← j2 (Decidable.of_not_not h4)]
  rw [if_neg h2, if_neg h2]
/-- Two parts in a new slice, and the result's cell. -/
theorem Tells.pair {w w1 W : World} {rb tb o c nr dp : Nat} {ts : List TokM} {k : Nat} {x y : Ex} {op p : Int} {rest : List TokM} {x0 x1 x2 x3 x4 y0 y1 y2 y3 y4 : Value} (hr : rest = ts.drop k) (he : Ends (ts.drop k)) (hx : RepE W (fun b => w1.heap.size ≤ b) x (.agg #[x0, x1, x2, x3, x4])) (hy : RepE W (fun b => w1.heap.size ≤ b) y (.agg #[y0, y1, y2, y3, y4]))
    (hz : Blk W w.heap.size 42 zerosE) (hd : Rdr W rb tb o c ts k nr dp) (hg : w.grownBy W (some rb)) (h1 : w1.heap.size = w.heap.size + 1) (h2 : w1.heap.size ≤ W.heap.size) (hlt : rb < w.heap.size) (htl : tb < w.heap.size) (hml : 2 < w.heap.size) :
    Blk ((((((W.setCell ⟨w.heap.size, 0, none⟩ (.int .i64 op)).setCell ⟨w.heap.size, 1, none⟩ (.string ⟨#[]⟩)).setCell ⟨w.heap.size, 2, none⟩ (.int .i64 0)).setCell ⟨w.heap.size, 3, none⟩ (.slice (some ⟨W.heap.size, 0, none⟩) 2 2)).setCell ⟨w.heap.size, 4, none⟩ (.int .i64 p)).alloc (.cells #[x0, x1, x2, x3, x4, y0, y1, y2, y3, y4] 42)) w.heap.size 42 [.int .i64 op, .string ⟨#[]⟩, .int .i64 0, .slice (some ⟨W.heap.size, 0, none⟩) 2 2, .int .i64 p] ∧
    Tells w rb tb o c ts nr dp (.mk op E0 0 [x, y] p, rest, 0) (.returned (.agg #[.int .i64 op, .string ⟨#[]⟩, .int .i64 0, .slice (some ⟨W.heap.size, 0, none⟩) 2 2, .int .i64 p])) ((((((W.setCell ⟨w.heap.size, 0, none⟩ (.int .i64 op)).setCell ⟨w.heap.size, 1, none⟩ (.string ⟨#[]⟩)).setCell ⟨w.heap.size, 2, none⟩ (.int .i64 0)).setCell ⟨w.heap.size, 3, none⟩ (.slice (some ⟨W.heap.size, 0, none⟩) 2 2)).setCell ⟨w.heap.size, 4, none⟩ (.int .i64 p)).alloc (.cells #[x0, x1, x2, x3, x4, y0, y1, y2, y3, y4] 42)) := by
  have hs := blk_setE hz (.int .i64 op) (.string ⟨#[]⟩) (.int .i64 0) (.slice (some ⟨W.heap.size, 0, none⟩) 2 2) (.int .i64 p)
  have hsz : (((((W.setCell ⟨w.heap.size, 0, none⟩ (.int .i64 op)).setCell ⟨w.heap.size, 1, none⟩ (.string ⟨#[]⟩)).setCell ⟨w.heap.size, 2, none⟩ (.int .i64 0)).setCell ⟨w.heap.size, 3, none⟩ (.slice (some ⟨W.heap.size, 0, none⟩) 2 2)).setCell ⟨w.heap.size, 4, none⟩ (.int .i64 p)).heap.size = W.heap.size := by simp
  generalize ((((W.setCell ⟨w.heap.size, 0, none⟩ (.int .i64 op)).setCell ⟨w.heap.size, 1, none⟩ (.string ⟨#[]⟩)).setCell ⟨w.heap.size, 2, none⟩ (.int .i64 0)).setCell ⟨w.heap.size, 3, none⟩ (.slice (some ⟨W.heap.size, 0, none⟩) 2 2)).setCell ⟨w.heap.size, 4, none⟩ (.int .i64 p) = W2 at hs hsz ⊢
  have ga := World.grownBy_alloc W2 (.cells #[x0, x1, x2, x3, x4, y0, y1, y2, y3, y4] 42) none
  have hnew := blkNew W2 [x0, x1, x2, x3, x4, y0, y1, y2, y3, y4] 42
  rw [hsz] at hnew
  have kp : Keeps (fun b => w1.heap.size ≤ b) W (W2.alloc (.cells #[x0, x1, x2, x3, x4, y0, y1, y2, y3, y4] 42)) := (Keeps.grown hs.2 (fun b (hb : _ ≤ b) e => by injection e with e; omega)).trans (Keeps.grown ga (fun b _ e => by cases e))
  refine ⟨hs.1.grownN ga, .inl ⟨rfl, k, _, rfl, hr, he, ?_, (hd.other hs.2 (by omega) (by omega) (by omega)).keep ga, (hg.andThen hs.2 (by intro j hj; injection hj with hj; left; omega)).trans (Keep.toRow ga)⟩⟩
  exact RepE.two (RepE.keeps kp (fun b (hb : w1.heap.size ≤ b) _ => show w.heap.size ≤ b by omega) _ _ hx) (RepE.keeps kp (fun b (hb : w1.heap.size ≤ b) _ => show w.heap.size ≤ b by omega) _ _ hy) (show w.heap.size ≤ W.heap.size by omega) hnew
set_option maxRecDepth 100000 in
set_option maxHeartbeats 4000000 in
theorem compared_any {rb tb o c nr dp : Nat} {ts : List TokM} {opd : List TokM → ResE} (ha : PartAsk 208 rb tb o c ts nr dp opd) (hcut : Cuts opd)
    (ho : AllOwn ts) (hz : ts.length ≤ 1000) : PartAsk 186 rb tb o c ts nr dp (cmpOf opd) := fun w k h he => by
  have HLT := Lib.hid h.blk.lt
  have HTL := Lib.hid h.lt
  have HML := Lib.hid (Blk.lt h.marks)
  have hk := ends_lt he
  obtain ⟨w1, hw1⟩ : ∃ W, W = w.alloc (.cells #[.int .i64 0, .string ⟨#[]⟩, .int .i64 0, .slice none 0 0, .int .i64 0] 42) := ⟨_, rfl⟩
  have HG1 : Hid (w.grownBy w1 none) := Lib.hid (by rw [hw1]; exact World.grownBy_alloc _ _ none)
  have HR1 := Lib.hid (h.keep HG1.out)
  have HZ1 : Hid (Blk w1 w.heap.size 42 zerosE) := Lib.hid (by rw [hw1]; exact blkNew w zerosE _)
  have HS1 : Hid (w1.heap.size = w.heap.size + 1) := Lib.hid (by rw [hw1]; simp)
  have HP1 := Lib.hid (ha w1 k HR1.out he)
  have HPA := Lib.hid ha
  have HSG := Lib.hid (fun (k : Nat) (s : ByteArray) hw hne => said_iffW (k := k) ho (s := s) hw hne)
  have HOP := Lib.hid (fun k : Nat => op_said (ho.drop k))
  have HIT := Lib.hid (fun W k (hr : Rdr W rb tb o c ts k nr dp) hE => items_any ha hcut ho hz (w := W) (k := k) hr hE)
  obtain ⟨i0, hi0, hz0, hz1, hz2⟩ := info_parts infoExpr
  obtain ⟨res, hres⟩ : ∃ r, r = cmpOf opd (ts.drop k) := ⟨_, rfl⟩
  rw [← hres]
  rw [cmp_is hcut _ he] at hres
  obtain ⟨x0, hx0⟩ : ∃ x, x = opd (ts.drop k) := ⟨_, rfl⟩
  rw [← hx0] at HP1 hres
  have HRES := Lib.hid hres
  clear h ha hres hx0
  go_enter Tryz.func186, Tryz.ntmps186
  go_wp2_with fail
  rw [← hw1]
  (with_reducible refine HP1.out.mono ?_)
  rintro e w2 hT
  by_cases h0 : x0.2.2 = 0
  · obtain ⟨k2, a0, a1, a2, A, n, cc, a4, rfl, hr2, he2, hrep, hrd, hg2⟩ := hT.ok h0
    have hres := HRES.out
    rw [if_neg (by simpa using h0), hr2, drop_one] at hres
    have HRES1 := Lib.hid hres
    obtain ⟨w3, hw3⟩ : ∃ W, W = w2.alloc (.cells #[.int .i64 a0, .string a1, .int .i64 a2, .slice A n cc, .int .i64 a4] 42) := ⟨_, rfl⟩
    have g3 : w2.grownBy w3 none := by rw [hw3]; exact World.grownBy_alloc _ _ none
    have hv3 : Blk w3 w2.heap.size 42 [.int .i64 a0, .string a1, .int .i64 a2, .slice A n cc, .int .i64 a4] := by rw [hw3]; exact blkNew w2 _ _
    have hk2 := ends_lt he2
    have HA3 := Lib.hid (polAhead_any (hrd.keep g3) (hd_at hk2))
    have HE2 := Lib.hid he2
    have HW3 := Lib.hid hw3
    have HR3 := Lib.hid (hrd.keep g3)
    have HV3 := Lib.hid hv3
    have HZ3 := Lib.hid ((HZ1.out.grown hg2 (by intro e; injection e with e; have := HLT.out; omega)).grownN g3)
    have HG3 := Lib.hid (((Keep.toRow (rb := rb) HG1.out).trans hg2).trans (Keep.toRow g3))
    have HP3 := Lib.hid (RepE.keeps (T := fun b => w1.heap.size ≤ b ∧ b < w2.heap.size) (Keeps.grown g3 (fun b _ e => by cases e)) (fun b (hb : w1.heap.size ≤ b) hl => ⟨hb, hl⟩) _ _ hrep)
    have HS3 : Hid (w1.heap.size ≤ w2.heap.size ∧ w2.heap.size < w3.heap.size) := Lib.hid ⟨hg2.size, HV3.out.lt⟩
    obtain ⟨pz, hpz⟩ : ∃ p, p = hdT (ts.drop k2) := ⟨_, rfl⟩
    have HPZ := Lib.hid hpz
    rw [← hpz] at HA3
    obtain ⟨p0, p1, p2, p3⟩ := pz
    simp only at HA3
    have HPP : Hid ((hdT (ts.drop k2)).pos = p3) := Lib.hid (by rw [← hpz])
    have hf := fun w => fieldPos (.int .i64 p0) (.string p1) (.int .i64 p2) (.int .i64 p3) w
    have HX0 := Lib.hid (And.intro h0 hr2)
    clear hT h0 hres hr2 he2 hrep hrd hg2 g3 hv3 hw3 hpz HP1 HRES HZ1
    go_wp2_with fail
    rw [← HW3.out]
    (with_reducible refine HA3.out.mono ?_)
    rintro e w4 ⟨rfl, hg4⟩
    have HR4 := Lib.hid (HR3.out.keep hg4)
    have HV4 := Lib.hid (HV3.out.grownN hg4)
    have HZ4 := Lib.hid (HZ3.out.grownN hg4)
    have HG4 := Lib.hid (HG3.out.trans (Keep.toRow hg4))
    have HP4 := Lib.hid (RepE.keeps (Keeps.grown hg4 (fun b _ e => by cases e)) (fun b hb _ => hb) _ _ HP3.out)
    have HS4 : Hid (w1.heap.size ≤ w2.heap.size ∧ w2.heap.size < w4.heap.size) := Lib.hid ⟨HS3.out.1, HV4.out.lt⟩
    obtain ⟨vb, hvb⟩ : ∃ x, x = w2.heap.size := ⟨_, rfl⟩
    have HVB := Lib.hid hvb
    rw [← hvb] at HV4 HP4 HS4 ⊢
    clear hg4 HW3 HR3 HV3 HZ3 HG3 HP3 HS3 HA3 hvb
    by_cases hin : isT (ts.drop k2) 1 wIn = true
    · have HG := Lib.hid (polGoes_yes (s := wIn) HR4.out (hd_at hk2) ((HSG.out k2 wIn (by decide) (by decide)).2 hin) (by omega))
      have he3 := HE2.out.next hin (by decide)
      rw [drop_one] at he3
      have HI := Lib.hid (fun W hr => HIT.out W (k2 + 1) hr he3)
      have hres2 := HRES1.out
      rw [if_pos hin] at hres2
      obtain ⟨q, hq⟩ : ∃ q, q = itemsR opd (ts.drop (k2 + 1)) := ⟨_, rfl⟩
      rw [← hq, HPP.out] at hres2
      rw [← hq] at HI
      have HRES2 := Lib.hid hres2
      clear hin he3 hres2 hq HRES1 HIT HPA HPZ HPP
      go_wp2_with fail
      (with_reducible refine HG.out.mono ?_)
      rintro e w5 ⟨rfl, hg5, hr5⟩
      have HR5 := Lib.hid hr5
      have HV5 := Lib.hid (HV4.out.grown hg5 (by intro e; injection e with e; have := HLT.out; have := HS4.out; have := HS1.out; omega))
      have HZ5 := Lib.hid (HZ4.out.grown hg5 (by intro e; injection e with e; have := HLT.out; omega))
      have HG5 := Lib.hid (HG4.out.trans hg5)
      have HP5 := Lib.hid (RepE.keeps (Keeps.grown hg5 (fun b (hb : _ ∧ _) e => by injection e with e; have := HLT.out; have := HS1.out; omega)) (fun b hb _ => hb) _ _ HP4.out)
      have HS5 : Hid (w1.heap.size ≤ vb ∧ vb < w5.heap.size) := Lib.hid ⟨HS4.out.1, HV5.out.lt⟩
      clear hg5 hr5 HG
      go_wp2_with fail
      by_cases hq0 : q.2.2 = 0
      · have HRS : Hid (res = (.mk 13 E0 0 (x0.1 :: q.1) p3, q.2.1, 0)) := Lib.hid (HRES2.out.trans (if_neg (by simpa using hq0)))
        have HQ0 := Lib.hid hq0
        clear hq0
        refine wp_region_held_drew (S := fun X => X.cell? ⟨vb, 0, none⟩ = some (.int .i64 a0) ∧ X.cell? ⟨vb, 1, none⟩ = some (.string a1) ∧ X.cell? ⟨vb, 2, none⟩ = some (.int .i64 a2) ∧ X.cell? ⟨vb, 3, none⟩ = some (.slice A n cc) ∧ X.cell? ⟨vb, 4, none⟩ = some (.int .i64 a4)) (by kernel_rfl) (cells5 HV5.out.drew) (fun hHeld => ?_)
        refine rgT 0 ?_
        try simp only [rgS]
        refine rgT 2 ?_
        try simp only [rgS]
        refine rgT 5 ?_
        try simp only [rgS]
        refine wpAnyH_ready (rs := [1, 3]) (by kernel_rfl) (by simp) (AllReadyH.cons rfl (fun K hK => ?ordA) (AllReadyH.cons rfl (fun K hK => ?ordB) AllReadyH.nil))
        case ordA =>
          go_simp
          obtain ⟨wA, hwA⟩ : ∃ W, W = w5.drew.alloc (.cells #[.int .i64 a0, .string a1, .int .i64 a2, .slice A n cc, .int .i64 a4] 42) := ⟨_, rfl⟩
          have ga : w5.drew.grownBy wA none := by rw [hwA]; exact World.grownBy_alloc _ _ none
          have hvA := HV5.out.drew.grownN ga
          have hoA : wA.ownsRow w1.heap.size 42 5 (.slice (some ⟨w5.heap.size, 0, none⟩) 1 1) 1 [.int .i64 a0, .string a1, .int .i64 a2, .slice A n cc, .int .i64 a4] := by rw [hwA]; exact World.ownsRow_lit w5.drew #[.int .i64 a0, .string a1, .int .i64 a2, .slice A n cc, .int .i64 a4] 1 (by have := HS5.out; show w1.heap.size ≤ w5.heap.size; omega) (by unfold maxLen; omega) rfl
          have hrA := (HR5.out.drewN 1).keep ga
          have HI6 := Lib.hid (HI.out wA hrA)
          have HWA := Lib.hid hwA
          have HVA := Lib.hid hvA
          have HOA := Lib.hid hoA
          have HZA := Lib.hid (HZ5.out.drew.grownN ga)
          have HGA := Lib.hid ((HG5.out.trans (grown_drewN 1 _)).trans (Keep.toRow ga))
          have HPA6 := Lib.hid (RepE.keeps (Keeps.grown ga (fun b _ e => by cases e)) (fun b hb _ => hb) _ _ (RepE.keeps (Keeps.grown (grown_drewN 1 none) (fun b _ e => by cases e)) (fun b hb _ => hb) _ _ HP5.out))
          have HSA : Hid (w5.heap.size < wA.heap.size) := Lib.hid (by rw [hwA]; simp)
          rw [show (w5.alloc (.cells #[.int .i64 a0, .string a1, .int .i64 a2, .slice A n cc, .int .i64 a4] 42)).drew = wA from hwA.symm]
          refine hK.out _ _ (cells5 hvA) (fun hHA => ?_)
          clear hK K hHeld hwA ga hvA hoA hrA
          try simp only [rgS]
          refine rgO 3 (fun K hK => ?_)
          go_simp
          (with_reducible refine HI6.out.mono ?_)
          rintro e wX (⟨_, k6, A2, c2, rfl, hqr, hqe, hrl, hqn, hqc, hrd6, hg6⟩ | ⟨hb, _⟩)
          · obtain ⟨sb, hsb⟩ : ∃ x, x = w5.heap.size := ⟨_, rfl⟩
            obtain ⟨m, hm⟩ : ∃ m, m = q.1.length := ⟨_, rfl⟩
            have HM := Lib.hid hm
            have b1 := HLT.out
            have b4 := HS1.out
            have b5 := HS5.out
            have b6 := HSA.out
            have HQ : Hid (q.1 ≠ [] ∧ m ≤ 1000 ∧ 0 < m) := Lib.hid ⟨hqn, by have := ends_lt hqe; omega, by rw [hm]; exact List.length_pos_iff.2 hqn⟩
            have HQR := Lib.hid (And.intro hqr hqe)
            have HVX := Lib.hid (HVA.out.grown hg6 (by intro e; injection e with e; omega))
            have HZX := Lib.hid (HZA.out.grown hg6 (by intro e; injection e with e; omega))
            have HRX := Lib.hid hrd6
            have HGX := Lib.hid (HGA.out.trans hg6)
            have HOX := Lib.hid (HOA.out.kept hg6 (.inr (by simp [Value.ownBlock]; omega)))
            have HIX : Hid (RepL wX (fun b => w1.heap.size ≤ b ∧ b ≠ sb) q.1 (.slice A2 q.1.length c2)) := Lib.hid (RepL.keeps (Keeps.refl _ _) (fun b (hb : wA.heap.size ≤ b) _ => ⟨by omega, by omega⟩) hrl)
            have HPX : Hid (RepE wX (fun b => w1.heap.size ≤ b ∧ b < sb ∨ sb < b) x0.1 (.agg #[.int .i64 a0, .string a1, .int .i64 a2, .slice A n cc, .int .i64 a4])) := Lib.hid (RepE.keeps (Keeps.grown hg6 (fun b (hb : _ ∧ _) e => by injection e with e; omega)) (fun b hb _ => .inl ⟨hb.1, by omega⟩) _ _ HPA6.out)
            have HSX : Hid (w1.heap.size ≤ vb ∧ vb < sb ∧ sb < wX.heap.size) := Lib.hid ⟨b5.1, by omega, by have := hg6.size; omega⟩
            rw [← hsb] at HOX ⊢
            rw [← hm] at HIX ⊢
            refine hK.out _ _ (cells5 HVX.out) (fun hHX => ?_)
            clear hK K hHA hqr hqe hrl hqn hqc hrd6 hg6 hsb hm b1 b4 b5 b6
            try simp only [rgS]
            refine rgO 4 (fun K hK => ?_)
            obtain ⟨A9, c9, e9, hm9, hc9⟩ := HIX.out
            obtain ⟨bi, oi, hA9, _, hbi, hrep9⟩ := hc9 HQ.out.1
            obtain ⟨news, hnf, hnc, hno⟩ := repEs_flat hrep9
            have hnl := hnf.length
            simp only [Value.slice.injEq] at e9
            obtain ⟨rfl, -, rfl⟩ := e9
            subst hA9
            have HNF := Lib.hid (And.intro hnf hnl)
            have hm1 := HQ.out.2
            refine step_append_lies _ (by rfl) _ _ _ (by rfl) w1.heap.size 42 i0 (.agg #[.int .i64 0, .string ByteArray.empty, .int .i64 0, .slice none 0 0, .int .i64 0]) 5 64 Tryz.underlying40 hi0 hz0 hz1 hz2 rfl (by omega) _ 1 [.int .i64 a0, .string a1, .int .i64 a2, .slice A n cc, .int .i64 a4] (by rfl) HOX.out ⟨bi, oi, none⟩ m _ news (by rfl) (by rw [hnl, ← HM.out]) (fun j u hj => by rw [show (⟨bi, oi, none⟩ : Addr).add j = ⟨bi, oi + j, none⟩ from by simp [Addr.add]]; exact hnc j u hj) hno (by omega) (by unfold maxLen; omega) (by omega) (by have := HSX.out; omega) wX.heap.size rfl ?_
            intro g8 cap8 w8 hown8 hg8 hat8 hlt8
            have hrow8 : ∀ x, (Value.slice (some ⟨sb, 0, none⟩) 1 1).ownBlock = some x → x = sb := fun x e => by simp [Value.ownBlock] at e; exact e.symm
            have b1 := HLT.out
            have b2 := HTL.out
            have b3 := HML.out
            have b4 := HS1.out
            have b5 := HSX.out
            have hv8 := HVX.out.grown hg8 (by intro e; have := hrow8 _ e.symm; omega)
            have hz8 := HZX.out.grown hg8 (by intro e; have := hrow8 _ e.symm; omega)
            have hr8 := HRX.out.other (x := sb) hg8 (by omega) (by omega) (by omega)
            have hgr8 := HGX.out.andThen hg8 (fun x e => by have := hrow8 x e; left; omega)
            have hp8 := RepE.keeps (T := fun b => w1.heap.size ≤ b) (Keeps.grown hg8 (fun b (hb : w1.heap.size ≤ b ∧ b < sb ∨ sb < b) e => by have := hrow8 _ e.symm; omega)) (fun b hb _ => by rcases hb with h | h <;> omega) _ _ HPX.out
            have hn8 := FlatE.keeps (T := fun b => w1.heap.size ≤ b) (Keeps.grown hg8 (fun b (hb : w1.heap.size ≤ b ∧ b ≠ sb) e => by have := hrow8 _ e.symm; omega)) (fun b hb _ => hb.1) HNF.out.1
            obtain ⟨A7, c7, e7, hc7⟩ := own_exprs (l := x0.1 :: q.1) (xs := [.int .i64 a0, .string a1, .int .i64 a2, .slice A n cc, .int .i64 a4] ++ news) (T := fun b => w1.heap.size ≤ b) (by rw [List.length_cons, ← HM.out, Nat.add_comm]; exact hown8) ⟨_, _, _, _, _, news, rfl, hp8, hn8⟩ (fun b hb _ => hb) (fun b hb => hb)
            have HX8 : Hid (RepE w8 (fun b => w1.heap.size ≤ b) (.mk 13 E0 0 (x0.1 :: q.1) p3) (.agg #[.int .i64 13, .string ⟨#[]⟩, .int .i64 0, .slice (some ⟨g8, 0, none⟩) (1 + m) cap8, .int .i64 p3])) := Lib.hid (by
              have hl8 : 1 + m = (x0.1 :: q.1).length := by rw [List.length_cons, ← HM.out, Nat.add_comm]
              rw [RepE]
              have hcap : 1 + m ≤ cap8 ∧ cap8 ≤ 9223372036854775807 := by
                rcases hown8.2 with ⟨h, _⟩ | ⟨g, cap, cur, h, _, _, hle, hmx, _⟩
                · cases h
                · injection h with _ _ h3; subst h3; exact ⟨hle, by unfold maxLen at hmx; omega⟩
              have e8 := e7
              injection e8 with _ _ e9
              refine ⟨A7, c7, ?_, by decide, by rw [← hl8, ← e9]; exact hcap, hc7⟩
              rw [e7])
            refine hK.out _ _ (cells5 hv8) (fun hH8 => ?_)
            have HV8 := Lib.hid hv8
            have HZ8 := Lib.hid hz8
            have HR8 := Lib.hid hr8
            have HG8 := Lib.hid hgr8
            clear hK K hown8 hg8 hat8 hlt8 hrow8 hv8 hz8 hr8 hgr8 hp8 hn8 e7 hc7 b1 b2 b3 b4 b5
            try simp only [rgS]
            refine rgT 6 ?_
            try simp only [rgS]
            refine rgO 7 (fun K hK => ?_)
            rw [if_pos (by kernel_rfl)]
            refine wp_store_row 42 (.tmp 2) (.tmp 21) rfl w.heap.size 0 [.int .i64 13, .string ⟨#[]⟩, .int .i64 0, .slice (some ⟨g8, 0, none⟩) (1 + m) cap8, .int .i64 p3] rfl rfl _ _ HZ8.out (by simp) sizeExpr (by intro v hv; simp at hv; rcases hv with rfl | rfl | rfl | rfl | rfl <;> rfl) ?_
            intro w9 hb9 hg9
            rw [splice_all _ _ (by simp)] at hb9
            have hv9 := HV8.out.grown hg9 (by intro e; injection e with e; have := HSX.out; have := HS1.out; omega)
            have HB9 := Lib.hid hb9
            have HT := Lib.hid (Tells.set (dp := dp) (r := (.mk 13 E0 0 (x0.1 :: q.1) p3, q.2.1, 0)) rfl HQR.out.1 HQR.out.2 HX8.out HR8.out HG8.out hg9 (Nat.le_refl _) (by rw [HS1.out]; omega) HLT.out HTL.out HML.out rfl)
            rw [← HRS.out] at HT
            refine hK.out _ _ (cells5 hv9) (fun hH9 => ?_)
            clear hK K hb9 hg9 hv9 hH8
            try simp only [rgS]
            refine wpAnyH_done (by kernel_rfl) ?_ _
            clear hH9
            go_wp2
            exact bodyPost_ret (results_blkE Tryz.results186 _ _ w.heap.size _ _ _ rfl HB9.out Tryz.underlying42 rfl sizeExpr) rfl HT.out
          · exact absurd HQ0.out hb
        case ordB =>
          go_simp
          have HI6 := Lib.hid (HI.out w5.drew (HR5.out.drewN 1))
          (with_reducible refine HI6.out.mono ?_)
          rintro e wB (⟨_, k6, A2, c2, rfl, hqr, hqe, hrl, hqn, hqc, hrd6, hg6⟩ | ⟨hb, _⟩)
          · have hvB := HV5.out.drew.grown hg6 (by intro e; injection e with e; have := HLT.out; have := HS1.out; have := HS5.out; omega)
            refine hK.out _ _ (cells5 hvB) (fun hHB => ?_)
            clear hK K hHeld
            try simp only [rgS]
            refine rgO 1 (fun K hK => ?_)
            go_simp
            obtain ⟨wX, hwX⟩ : ∃ W, W = wB.alloc (.cells #[.int .i64 a0, .string a1, .int .i64 a2, .slice A n cc, .int .i64 a4] 42) := ⟨_, rfl⟩
            have ga : wB.grownBy wX none := by rw [hwX]; exact World.grownBy_alloc _ _ none
            have hoX : wX.ownsRow w1.heap.size 42 5 (.slice (some ⟨wB.heap.size, 0, none⟩) 1 1) 1 [.int .i64 a0, .string a1, .int .i64 a2, .slice A n cc, .int .i64 a4] := by rw [hwX]; exact World.ownsRow_lit wB #[.int .i64 a0, .string a1, .int .i64 a2, .slice A n cc, .int .i64 a4] 1 (by have := HS5.out; have := hg6.size; show w1.heap.size ≤ wB.heap.size; have h7 : w5.drew.heap.size = w5.heap.size := rfl; omega) (by unfold maxLen; omega) rfl
            obtain ⟨sb, hsb⟩ : ∃ x, x = wB.heap.size := ⟨_, rfl⟩
            obtain ⟨m, hm⟩ : ∃ m, m = q.1.length := ⟨_, rfl⟩
            have HM := Lib.hid hm
            have b1 := HLT.out
            have b4 := HS1.out
            have b5 := HS5.out
            have b6 : w5.heap.size ≤ wB.heap.size := hg6.size
            have HQ : Hid (q.1 ≠ [] ∧ m ≤ 1000 ∧ 0 < m) := Lib.hid ⟨hqn, by have := ends_lt hqe; omega, by rw [hm]; exact List.length_pos_iff.2 hqn⟩
            have HQR := Lib.hid (And.intro hqr hqe)
            have HVX := Lib.hid (hvB.grownN ga)
            have HZX := Lib.hid ((HZ5.out.drew.grown hg6 (by intro e; injection e with e; omega)).grownN ga)
            have HRX := Lib.hid (hrd6.keep ga)
            have HGX := Lib.hid (((HG5.out.trans (grown_drewN 1 _)).trans hg6).trans (Keep.toRow ga))
            have HOX := Lib.hid hoX
            have HIX : Hid (RepL wX (fun b => w1.heap.size ≤ b ∧ b ≠ sb) q.1 (.slice A2 q.1.length c2)) := Lib.hid (RepL.keeps (Keeps.grown ga (fun b _ e => by cases e)) (fun b (hb : w5.heap.size ≤ b) hl => ⟨by omega, by omega⟩) hrl)
            have HPX : Hid (RepE wX (fun b => w1.heap.size ≤ b ∧ b < sb ∨ sb < b) x0.1 (.agg #[.int .i64 a0, .string a1, .int .i64 a2, .slice A n cc, .int .i64 a4])) := Lib.hid (RepE.keeps (Keeps.grown ga (fun b _ e => by cases e)) (fun b hb _ => hb) _ _ (RepE.keeps (T := fun b => w1.heap.size ≤ b ∧ b < sb ∨ sb < b) (Keeps.grown hg6 (fun b (hb : _ ∧ _) e => by injection e with e; omega)) (fun b hb _ => .inl ⟨hb.1, by have := hb.2; omega⟩) _ _ (RepE.keeps (Keeps.grown (grown_drewN 1 none) (fun b _ e => by cases e)) (fun b hb _ => hb) _ _ HP5.out)))
            have HSX : Hid (w1.heap.size ≤ vb ∧ vb < sb ∧ sb < wX.heap.size) := Lib.hid ⟨b5.1, by omega, by rw [hwX, hsb]; simp⟩
            rw [← hsb] at HOX ⊢
            rw [← hm] at HIX ⊢
            rw [← hwX]
            refine hK.out _ _ (cells5 HVX.out) (fun hHX => ?_)
            clear hK K hHB hqr hqe hrl hqn hqc hrd6 hg6 hsb hm b1 b4 b5 b6 hvB ga hoX hwX
            try simp only [rgS]
            refine rgO 4 (fun K hK => ?_)
            obtain ⟨A9, c9, e9, hm9, hc9⟩ := HIX.out
            obtain ⟨bi, oi, hA9, _, hbi, hrep9⟩ := hc9 HQ.out.1
            obtain ⟨news, hnf, hnc, hno⟩ := repEs_flat hrep9
            have hnl := hnf.length
            simp only [Value.slice.injEq] at e9
            obtain ⟨rfl, -, rfl⟩ := e9
            subst hA9
            have HNF := Lib.hid (And.intro hnf hnl)
            have hm1 := HQ.out.2
            refine step_append_lies _ (by rfl) _ _ _ (by rfl) w1.heap.size 42 i0 (.agg #[.int .i64 0, .string ByteArray.empty, .int .i64 0, .slice none 0 0, .int .i64 0]) 5 64 Tryz.underlying40 hi0 hz0 hz1 hz2 rfl (by omega) _ 1 [.int .i64 a0, .string a1, .int .i64 a2, .slice A n cc, .int .i64 a4] (by rfl) HOX.out ⟨bi, oi, none⟩ m _ news (by rfl) (by rw [hnl, ← HM.out]) (fun j u hj => by rw [show (⟨bi, oi, none⟩ : Addr).add j = ⟨bi, oi + j, none⟩ from by simp [Addr.add]]; exact hnc j u hj) hno (by omega) (by unfold maxLen; omega) (by omega) (by have := HSX.out; omega) wX.heap.size rfl ?_
            intro g8 cap8 w8 hown8 hg8 hat8 hlt8
            have hrow8 : ∀ x, (Value.slice (some ⟨sb, 0, none⟩) 1 1).ownBlock = some x → x = sb := fun x e => by simp [Value.ownBlock] at e; exact e.symm
            have b1 := HLT.out
            have b2 := HTL.out
            have b3 := HML.out
            have b4 := HS1.out
            have b5 := HSX.out
            have hv8 := HVX.out.grown hg8 (by intro e; have := hrow8 _ e.symm; omega)
            have hz8 := HZX.out.grown hg8 (by intro e; have := hrow8 _ e.symm; omega)
            have hr8 := HRX.out.other (x := sb) hg8 (by omega) (by omega) (by omega)
            have hgr8 := HGX.out.andThen hg8 (fun x e => by have := hrow8 x e; left; omega)
            have hp8 := RepE.keeps (T := fun b => w1.heap.size ≤ b) (Keeps.grown hg8 (fun b (hb : w1.heap.size ≤ b ∧ b < sb ∨ sb < b) e => by have := hrow8 _ e.symm; omega)) (fun b hb _ => by rcases hb with h | h <;> omega) _ _ HPX.out
            have hn8 := FlatE.keeps (T := fun b => w1.heap.size ≤ b) (Keeps.grown hg8 (fun b (hb : w1.heap.size ≤ b ∧ b ≠ sb) e => by have := hrow8 _ e.symm; omega)) (fun b hb _ => hb.1) HNF.out.1
            obtain ⟨A7, c7, e7, hc7⟩ := own_exprs (l := x0.1 :: q.1) (xs := [.int .i64 a0, .string a1, .int .i64 a2, .slice A n cc, .int .i64 a4] ++ news) (T := fun b => w1.heap.size ≤ b) (by rw [List.length_cons, ← HM.out, Nat.add_comm]; exact hown8) ⟨_, _, _, _, _, news, rfl, hp8, hn8⟩ (fun b hb _ => hb) (fun b hb => hb)
            have HX8 : Hid (RepE w8 (fun b => w1.heap.size ≤ b) (.mk 13 E0 0 (x0.1 :: q.1) p3) (.agg #[.int .i64 13, .string ⟨#[]⟩, .int .i64 0, .slice (some ⟨g8, 0, none⟩) (1 + m) cap8, .int .i64 p3])) := Lib.hid (by
              have hl8 : 1 + m = (x0.1 :: q.1).length := by rw [List.length_cons, ← HM.out, Nat.add_comm]
              rw [RepE]
              have hcap : 1 + m ≤ cap8 ∧ cap8 ≤ 9223372036854775807 := by
                rcases hown8.2 with ⟨h, _⟩ | ⟨g, cap, cur, h, _, _, hle, hmx, _⟩
                · cases h
                · injection h with _ _ h3; subst h3; exact ⟨hle, by unfold maxLen at hmx; omega⟩
              have e8 := e7
              injection e8 with _ _ e9
              refine ⟨A7, c7, ?_, by decide, by rw [← hl8, ← e9]; exact hcap, hc7⟩
              rw [e7])
            refine hK.out _ _ (cells5 hv8) (fun hH8 => ?_)
            have HV8 := Lib.hid hv8
            have HZ8 := Lib.hid hz8
            have HR8 := Lib.hid hr8
            have HG8 := Lib.hid hgr8
            clear hK K hown8 hg8 hat8 hlt8 hrow8 hv8 hz8 hr8 hgr8 hp8 hn8 e7 hc7 b1 b2 b3 b4 b5
            try simp only [rgS]
            refine rgT 6 ?_
            try simp only [rgS]
            refine rgO 7 (fun K hK => ?_)
            rw [if_pos (by kernel_rfl)]
            refine wp_store_row 42 (.tmp 2) (.tmp 21) rfl w.heap.size 0 [.int .i64 13, .string ⟨#[]⟩, .int .i64 0, .slice (some ⟨g8, 0, none⟩) (1 + m) cap8, .int .i64 p3] rfl rfl _ _ HZ8.out (by simp) sizeExpr (by intro v hv; simp at hv; rcases hv with rfl | rfl | rfl | rfl | rfl <;> rfl) ?_
            intro w9 hb9 hg9
            rw [splice_all _ _ (by simp)] at hb9
            have hv9 := HV8.out.grown hg9 (by intro e; injection e with e; have := HSX.out; have := HS1.out; omega)
            have HB9 := Lib.hid hb9
            have HT := Lib.hid (Tells.set (dp := dp) (r := (.mk 13 E0 0 (x0.1 :: q.1) p3, q.2.1, 0)) rfl HQR.out.1 HQR.out.2 HX8.out HR8.out HG8.out hg9 (Nat.le_refl _) (by rw [HS1.out]; omega) HLT.out HTL.out HML.out rfl)
            rw [← HRS.out] at HT
            refine hK.out _ _ (cells5 hv9) (fun hH9 => ?_)
            clear hK K hb9 hg9 hv9 hH8
            try simp only [rgS]
            refine wpAnyH_done (by kernel_rfl) ?_ _
            clear hH9
            go_wp2
            exact bodyPost_ret (results_blkE Tryz.results186 _ _ w.heap.size _ _ _ rfl HB9.out Tryz.underlying42 rfl sizeExpr) rfl HT.out
          · exact absurd HQ0.out hb
      · have HRS : Hid (res = (ex0, q.2)) := Lib.hid (HRES2.out.trans (if_pos hq0))
        have HQ0 := Lib.hid hq0
        clear hq0
        refine wp_region_held_drew (S := fun X => X.cell? ⟨vb, 0, none⟩ = some (.int .i64 a0) ∧ X.cell? ⟨vb, 1, none⟩ = some (.string a1) ∧ X.cell? ⟨vb, 2, none⟩ = some (.int .i64 a2) ∧ X.cell? ⟨vb, 3, none⟩ = some (.slice A n cc) ∧ X.cell? ⟨vb, 4, none⟩ = some (.int .i64 a4)) (by kernel_rfl) (cells5 HV5.out.drew) (fun hHeld => ?_)
        refine rgT 0 ?_
        try simp only [rgS]
        refine rgT 2 ?_
        try simp only [rgS]
        refine rgT 5 ?_
        try simp only [rgS]
        refine wpAnyH_ready (rs := [1, 3]) (by kernel_rfl) (by simp) (AllReadyH.cons rfl (fun K hK => ?ordA) (AllReadyH.cons rfl (fun K hK => ?ordB) AllReadyH.nil))
        case ordA =>
          go_simp
          obtain ⟨wA, hwA⟩ : ∃ W, W = w5.drew.alloc (.cells #[.int .i64 a0, .string a1, .int .i64 a2, .slice A n cc, .int .i64 a4] 42) := ⟨_, rfl⟩
          have ga : w5.drew.grownBy wA none := by rw [hwA]; exact World.grownBy_alloc _ _ none
          have hvA := HV5.out.drew.grownN ga
          have HI6 := Lib.hid (HI.out wA ((HR5.out.drewN 1).keep ga))
          have HGA := Lib.hid ((HG5.out.trans (grown_drewN 1 _)).trans (Keep.toRow ga))
          rw [show (w5.alloc (.cells #[.int .i64 a0, .string a1, .int .i64 a2, .slice A n cc, .int .i64 a4] 42)).drew = wA from hwA.symm]
          refine hK.out _ _ (cells5 hvA) (fun hHA => ?_)
          clear hK K hHeld hwA ga hvA
          try simp only [rgS]
          refine rgO 3 (fun K hK => ?_)
          go_simp
          (with_reducible refine HI6.out.mono ?_)
          rintro e wX (⟨hb, _⟩ | ⟨_, hG⟩)
          · exact absurd hb HQ0.out
          · have HF := Lib.hid (hG.from HGA.out)
            obtain ⟨gb, rfl, _⟩ := hG
            refine ⟨rfl, ?_⟩
            rw [HRS.out]
            exact .inr ⟨HQ0.out, HF.out⟩
        case ordB =>
          go_simp
          have HI6 := Lib.hid (HI.out w5.drew (HR5.out.drewN 1))
          (with_reducible refine HI6.out.mono ?_)
          rintro e wX (⟨hb, _⟩ | ⟨_, hG⟩)
          · exact absurd hb HQ0.out
          · have HF := Lib.hid (hG.from (HG5.out.trans (grown_drewN 1 _)))
            obtain ⟨gb, rfl, _⟩ := hG
            refine ⟨rfl, ?_⟩
            rw [HRS.out]
            exact .inr ⟨HQ0.out, HF.out⟩
    · have HG := Lib.hid (polGoes_no (s := wIn) HR4.out (hd_at hk2) (fun e => hin ((HSG.out k2 wIn (by decide) (by decide)).1 e)))
      have hres2 := HRES1.out
      rw [if_neg hin] at hres2
      have HSD := Lib.hid (fun W (hr : Rdr W rb tb o c ts k2 nr dp) => polSaid_any hr (hd_at hk2))
      have hop := HOP.out k2
      have HEN : Hid ((signsT (hdT (ts.drop k2))).1 ≠ 0 → Ends (ts.drop (k2 + 1))) := Lib.hid (fun h3 => by
        have := HE2.out.tail (fun e => h3 (by unfold signsT; rw [if_neg (fun h => by have := h.1; rw [e] at this; exact absurd this (by decide)), if_pos (by rw [e]; decide)]))
        rwa [drop_one] at this)
      obtain ⟨sg, hsg⟩ : ∃ s, s = signsT (hdT (ts.drop k2)) := ⟨_, rfl⟩
      obtain ⟨x, hx⟩ : ∃ x, x = saidT (hdT (ts.drop k2)) := ⟨_, rfl⟩
      rw [← hsg, ← hx] at hop
      rw [← hsg, HPP.out] at hres2
      rw [← hsg] at HEN
      rw [← hx] at HSD
      have HOO := Lib.hid (fun W => opOf_any x W)
      rw [hop] at HOO
      obtain ⟨o5, tn⟩ := sg
      simp only at hres2 HEN HOO
      have HRES2 := Lib.hid hres2
      clear hin hres2 hop hsg hx HRES1 HIT HOP HSG HPZ HPP
      have HWR : Hid (wrap64 ((k2 : Int) + 1) = ((k2 + 1 : Nat) : Int)) := Lib.hid (by unfold wrap64; omega)
      go_wp2_with fail
      (with_reducible refine HG.out.mono ?_)
      rintro e w5 ⟨rfl, hg5⟩
      have HS5 := Lib.hid (HSD.out w5 (HR4.out.keep hg5))
      have HX5 := Lib.hid hg5
      clear hg5 HG HSD
      go_wp2_with fail
      (with_reducible refine HS5.out.mono ?_)
      rintro e w6 ⟨rfl, hg6⟩
      have hg46 := HX5.out.trans hg6
      have HR6 := Lib.hid (HR4.out.keep hg46)
      have HV6 := Lib.hid (HV4.out.grownN hg46)
      have HZ6 := Lib.hid (HZ4.out.grownN hg46)
      have HG6 := Lib.hid (HG4.out.trans (Keep.toRow hg46))
      have HP6 := Lib.hid (RepE.keeps (Keeps.grown hg46 (fun b _ e => by cases e)) (fun b hb _ => hb) _ _ HP4.out)
      have HS6 : Hid (w1.heap.size ≤ vb ∧ vb < w6.heap.size) := Lib.hid ⟨HS4.out.1, HV6.out.lt⟩
      have HO6 := Lib.hid (HOO.out w6)
      clear hg6 hg46 HS5 HX5 HR4 HV4 HZ4 HG4 HP4 HS4 HOO
      go_wp2_with fail
      (with_reducible refine HO6.out.mono ?_)
      rintro e w7 ⟨rfl, rfl⟩
      by_cases ho5 : o5 = 0
      · have HRS : Hid (res = x0) := Lib.hid (HRES2.out.trans (if_pos ho5))
        subst ho5
        have HSET := Lib.hid (blk_setE HZ6.out (.int .i64 a0) (.string a1) (.int .i64 a2) (.slice A n cc) (.int .i64 a4))
        have HT := Lib.hid (Tells.set (dp := dp) HX0.out.1 HX0.out.2 HE2.out (RepE.keeps (T := fun b => w1.heap.size ≤ b) (Keeps.refl _ _) (fun b (hb : _ ∧ _) _ => hb.1) _ _ HP6.out) HR6.out HG6.out HSET.out.2 (Nat.le_refl _) (by rw [HS1.out]; omega) HLT.out HTL.out HML.out rfl)
        rw [← HRS.out] at HT
        obtain ⟨z0, z1, z2, z3, z4⟩ := cells5 HZ6.out
        obtain ⟨f0, f1, f2, f3, f4⟩ := frozen5 HZ6.out
        obtain ⟨s0, s1, s2, s3, s4⟩ := cells5 HV6.out
        go_wp2
        exact bodyPost_ret (results_blkE Tryz.results186 _ _ w.heap.size _ _ _ rfl HSET.out.1 Tryz.underlying42 rfl sizeExpr) rfl HT.out
      · have HE3 := Lib.hid (HEN.out ho5)
        have n5 : (o5 == 0) = false := by rw [beq_eq_false_iff_ne]; exact ho5
        have HRES3 := Lib.hid (HRES2.out.trans (if_neg ho5))
        obtain ⟨⟨_, c1, _, _⟩, _, f1, _, _⟩ := HR6.out.cells
        have l5 := HR6.out.blk.lt
        have HB6 := Lib.hid (HPA.out (w6.setCell ⟨rb, 1, none⟩ (.int .i64 ((k2 + 1 : Nat) : Int))) (k2 + 1) (HR6.out.goes (k2 + 1)) HE3.out)
        obtain ⟨q, hq⟩ : ∃ q, q = opd (ts.drop (k2 + 1)) := ⟨_, rfl⟩
        rw [← hq] at HB6 HRES3
        clear hq ho5 hk2 HEN HRES2
        go_wp2_with fail
        rw [HWR.out]
        (with_reducible refine HB6.out.mono ?_)
        rintro e w7 hT
        have gr := grownBy_setCell w6 rb 1 (.int .i64 ((k2 + 1 : Nat) : Int))
        by_cases h0 : q.2.2 = 0
        · have HRES4 := Lib.hid (HRES3.out.trans (if_neg (by simpa using h0)))
          obtain ⟨k6, d0, d1, d2, D, dn, dc, d4, rfl, hr6, he6, hrep6, hrd6, hg6⟩ := hT.ok h0
          have hg67 := gr.trans hg6
          have b1 := HLT.out
          have b4 := HS1.out
          have b5 := HS6.out
          have HH7 := Lib.hid (And.intro hr6 he6)
          have HV7 := Lib.hid (HV6.out.grown hg67 (by intro e; injection e with e; omega))
          have HZ7 := Lib.hid (HZ6.out.grown hg67 (by intro e; injection e with e; omega))
          have HR7 := Lib.hid hrd6
          have HG7 := Lib.hid (HG6.out.trans hg67)
          have HP7 := Lib.hid (RepE.keeps (T := fun b => w1.heap.size ≤ b ∧ b < vb) (Keeps.grown hg67 (fun b (hb : _ ∧ _) e => by injection e with e; omega)) (fun b hb _ => ⟨hb.1, by have := HVB.out; omega⟩) _ _ HP6.out)
          have HQ7 : Hid (RepE w7 (fun b => w6.heap.size ≤ b) q.1 (.agg #[.int .i64 d0, .string d1, .int .i64 d2, .slice D dn dc, .int .i64 d4])) := Lib.hid (RepE.keeps (Keeps.refl _ _) (fun b (hb : _ ≤ b) _ => by simpa using hb) _ _ hrep6)
          have HS7 : Hid (w6.heap.size ≤ w7.heap.size) := Lib.hid hg67.size
          clear hT h0 hr6 he6 hrep6 hrd6 hg6 hg67 gr b1 b4 b5 c1 f1 l5
          cases tn with
          | false =>
            have HRS : Hid (res = (.mk o5 E0 0 [x0.1, q.1] p3, q.2.1, 0)) := Lib.hid (HRES4.out)
            go_upto_region 12 with fail
            refine wp_gen (fun W9 hW9 => ?_)
            have b1 := HLT.out
            have b2 := HTL.out
            have b3 := HML.out
            have b4 := HS1.out
            have b5 := HS6.out
            have b7 := HS7.out
            obtain ⟨hr6, he6⟩ := HH7.out
            have ga := World.grownBy_alloc w7 (.cells #[.int .i64 d0, .string d1, .int .i64 d2, .slice D dn dc, .int .i64 d4] 42) none
            have hvd9 := blkNew w7 [.int .i64 d0, .string d1, .int .i64 d2, .slice D dn dc, .int .i64 d4] 42
            have hva9 := HV7.out.grownN ga
            have hz9 := HZ7.out.grownN ga
            have hr9 := HR7.out.keep ga
            have hg9 := HG7.out.trans (Keep.toRow ga)
            have HXX := RepE.keeps (T := fun b => w1.heap.size ≤ b) (Keeps.grown ga (fun b _ e => by cases e)) (fun b (hb : _ ∧ _) _ => hb.1) _ _ HP7.out
            have HYY := RepE.keeps (T := fun b => w1.heap.size ≤ b) (Keeps.grown ga (fun b _ e => by cases e)) (fun b (hb : w6.heap.size ≤ b) _ => by omega) _ _ HQ7.out
            have hl9 := ga.size
            rw [← hW9] at hvd9 hva9 hz9 hr9 hg9 HXX HYY hl9
            replace hl9 : w1.heap.size ≤ W9.heap.size := by omega
            clear ga b7
            have HFB := Lib.hid (Tells.pair (w := w) (w1 := w1) (W := W9) (k := k6) (op := o5) (p := p3) hr6 he6 HXX HYY hz9 hr9 hg9 HS1.out hl9 HLT.out HTL.out HML.out)
            rw [← HRS.out] at HFB
            obtain ⟨z0, z1, z2, z3, z4⟩ := cells5 hz9
            obtain ⟨f0, f1, f2, f3, f4⟩ := frozen5 hz9
            have l9 := hz9.lt
            obtain ⟨s0, s1, s2, s3, s4⟩ := cells5 hva9
            obtain ⟨u0, u1, u2, u3, u4⟩ := cells5 hvd9
            clear hr6 he6 HXX HYY hz9 hr9 hg9 hl9 hva9 hvd9 hW9 b1 b2 b3 b4 b5
            go_wp2
            exact bodyPost_ret (results_blkE Tryz.results186 _ _ w.heap.size _ _ _ rfl HFB.out.1 Tryz.underlying42 rfl sizeExpr) rfl HFB.out.2
          | true =>
            have HRS : Hid (res = (.mk o5 E0 0 [q.1, x0.1] p3, q.2.1, 0)) := Lib.hid (HRES4.out)
            go_upto_region 11 with fail
            refine wp_gen (fun W8 hW8 => ?_)
            have b1 := HLT.out
            have b2 := HTL.out
            have b3 := HML.out
            have b4 := HS1.out
            have b5 := HS6.out
            have b7 := HS7.out
            have ga := World.grownBy_alloc w7 (.cells #[.int .i64 d0, .string d1, .int .i64 d2, .slice D dn dc, .int .i64 d4] 42) none
            have hvd8 := blkNew w7 [.int .i64 d0, .string d1, .int .i64 d2, .slice D dn dc, .int .i64 d4] 42
            have hva8 := HV7.out.grownN ga
            have hz8 := HZ7.out.grownN ga
            have hr8 := HR7.out.keep ga
            have hg8 := HG7.out.trans (Keep.toRow ga)
            have hx8 := RepE.keeps (T := fun b => w1.heap.size ≤ b ∧ b < vb) (Keeps.grown ga (fun b _ e => by cases e)) (fun b hb _ => hb) _ _ HP7.out
            have hy8 := RepE.keeps (T := fun b => w6.heap.size ≤ b ∧ b < w7.heap.size) (Keeps.grown ga (fun b _ e => by cases e)) (fun b (hb : w6.heap.size ≤ b) hl => ⟨hb, hl⟩) _ _ HQ7.out
            rw [← hW8] at hvd8 hva8 hz8 hr8 hg8 hx8 hy8
            obtain ⟨s0, s1, s2, s3, s4⟩ := cells5 hva8
            obtain ⟨u0, u1, u2, u3, u4⟩ := cells5 hvd8
            obtain ⟨f0, f1, f2, f3, f4⟩ := frozen5 hva8
            obtain ⟨g0, g1, g2, g3, g4⟩ := frozen5 hvd8
            have HH8 := Lib.hid (And.intro hvd8 (And.intro hva8 (And.intro hz8 (And.intro hr8 (And.intro hg8 (And.intro hx8 hy8))))))
            have l1 : vb < w7.heap.size := by omega
            have l0 : w7.heap.size < W8.heap.size := hvd8.lt
            clear hvd8 hva8 hz8 hr8 hg8 hx8 hy8 ga hW8
            go_upto_region 12 with fail
            refine wp_gen (fun W9 hW9 => ?_)
            obtain ⟨hr6, he6⟩ := HH7.out
            obtain ⟨hvd8, hva8, hz8, hr8, hg8, hx8, hy8⟩ := HH8.out
            have t1 := blk_setE hva8 (.int .i64 d0) (.string d1) (.int .i64 d2) (.slice D dn dc) (.int .i64 d4)
            have t2 := blk_setE (hvd8.grown t1.2 (by intro e; injection e with e; omega)) (.int .i64 a0) (.string a1) (.int .i64 a2) (.slice A n cc) (.int .i64 a4)
            have hvd9 := t2.1
            have hva9 := t1.1.grown t2.2 (by intro e; injection e with e; omega)
            have hz9 := (hz8.grown t1.2 (by intro e; injection e with e; omega)).grown t2.2 (by intro e; injection e with e; omega)
            have hr9 := (hr8.other t1.2 (by omega) (by omega) (by omega)).other t2.2 (by omega) (by omega) (by omega)
            have hg9 := (hg8.andThen t1.2 (by intro j hj; injection hj with hj; left; omega)).andThen t2.2 (by intro j hj; injection hj with hj; left; omega)
            have HYY := RepE.keeps (T := fun b => w1.heap.size ≤ b) ((Keeps.grown t1.2 (fun b (hb : w1.heap.size ≤ b ∧ b < vb) e => by injection e with e; omega)).trans (Keeps.grown t2.2 (fun b (hb : w1.heap.size ≤ b ∧ b < vb) e => by injection e with e; omega))) (fun b hb _ => hb.1) _ _ hx8
            have HXX := RepE.keeps (T := fun b => w1.heap.size ≤ b) ((Keeps.grown t1.2 (fun b (hb : w6.heap.size ≤ b ∧ b < w7.heap.size) e => by injection e with e; omega)).trans (Keeps.grown t2.2 (fun b (hb : w6.heap.size ≤ b ∧ b < w7.heap.size) e => by injection e with e; omega))) (fun b hb _ => by omega) _ _ hy8
            have hl9 : w1.heap.size ≤ _ := Nat.le_trans (Nat.le_trans (by omega : w1.heap.size ≤ W8.heap.size) t1.2.size) t2.2.size
            rw [← hW9] at hvd9 hva9 hz9 hr9 hg9 HXX HYY hl9
            clear t1 t2 hvd8 hva8 hz8 hr8 hg8 hx8 hy8 s0 s1 s2 s3 s4 u0 u1 u2 u3 u4 f0 f1 f2 f3 f4 g0 g1 g2 g3 g4 l1 b7
            have HFB := Lib.hid (Tells.pair (w := w) (w1 := w1) (W := W9) (k := k6) (op := o5) (p := p3) hr6 he6 HXX HYY hz9 hr9 hg9 HS1.out hl9 HLT.out HTL.out HML.out)
            rw [← HRS.out] at HFB
            obtain ⟨z0, z1, z2, z3, z4⟩ := cells5 hz9
            obtain ⟨f0, f1, f2, f3, f4⟩ := frozen5 hz9
            have l9 := hz9.lt
            obtain ⟨s0, s1, s2, s3, s4⟩ := cells5 hva9
            obtain ⟨u0, u1, u2, u3, u4⟩ := cells5 hvd9
            clear hr6 he6 HXX HYY hz9 hr9 hg9 hl9 hva9 hvd9 hW9 b1 b2 b3 b4 b5
            go_wp2
            exact bodyPost_ret (results_blkE Tryz.results186 _ _ w.heap.size _ _ _ rfl HFB.out.1 Tryz.underlying42 rfl sizeExpr) rfl HFB.out.2
        · have HRS : Hid (res = q) := Lib.hid (HRES3.out.trans (if_pos h0))
          have HF := Lib.hid ((hT.bad h0).from (HG6.out.trans gr))
          obtain ⟨b, rfl, _⟩ := hT.bad h0
          clear hT
          go_wp2
          refine ⟨rfl, ?_⟩
          rw [HRS.out]
          exact .inr ⟨h0, HF.out⟩
  · have HRS : Hid (res = x0) := Lib.hid (HRES.out.trans (if_pos h0))
    have HF := Lib.hid ((hT.bad h0).from (Keep.toRow HG1.out))
    obtain ⟨b, rfl, _⟩ := hT.bad h0
    clear hT
    go_wp2
    refine ⟨rfl, ?_⟩
    rw [HRS.out]
    exact .inr ⟨h0, HF.out⟩
end Go.Proofs.YtcjfealalokjaaaGreatDoor
namespace Go.Proofs.YtcjfealalokjaaaGreatDoor
open Go Go.RowKit
theorem eg_both : ∀ args w, (callFunc 143 args).run Tryz.prog w = .ok (.enter 143 args) w := enters_of Tryz.func143 (by kernel_rfl) rfl
set_option maxRecDepth 100000 in
set_option maxHeartbeats 1000000 in
theorem both_any {rb tb o c nr dp : Nat} {ts : List TokM} {next : List TokM → ResE} (ha : PartAsk 168 rb tb o c ts nr dp next) (hcut : Cuts next) (ho : AllOwn ts) (hz : ts.length ≤ 1000000) :
    PartAsk 143 rb tb o c ts nr dp (linkOf wAnd 7 next) := fun w k h he => by
  have HLT := Lib.hid h.blk.lt
  have HTL := Lib.hid h.lt
  have HML := Lib.hid (Blk.lt h.marks)
  obtain ⟨w1, hw1⟩ : ∃ W, W = w.alloc (.cells #[.int .i64 0, .string ⟨#[]⟩, .int .i64 0, .slice none 0 0, .int .i64 0] 42) := ⟨_, rfl⟩
  have HG1 : Hid (w.grownBy w1 none) := Lib.hid (by rw [hw1]; exact World.grownBy_alloc _ _ none)
  have HZ1 : Hid (Blk w1 w.heap.size 42 zerosE) := Lib.hid (by rw [hw1]; exact blkNew w zerosE _)
  have HS1 : Hid (w1.heap.size = w.heap.size + 1) := Lib.hid (by rw [hw1]; simp)
  have HC := Lib.hid (chain_any (f := 168) eg_negated ha hcut wAnd 7 ho (by decide) (by decide) hz (h.keep HG1.out) he)
  obtain ⟨r, hr⟩ : ∃ r, r = linkOf wAnd 7 next (ts.drop k) := ⟨_, rfl⟩
  rw [← hr] at HC ⊢
  have hmf : ∀ (fn : Fn) (first cap : Array Value) (w : World), (Instr.makeFunc fn first cap).run Tryz.prog w = .ok (.func fn first cap) w := fun _ _ _ _ => rfl
  clear h ha he hr
  go_enter Tryz.func143, Tryz.ntmps143
  go_wp2_with fail
  rw [← hw1]
  refine HC.out.mono ?_
  rintro e w2 hT
  by_cases h0 : r.2.2 = 0
  · obtain ⟨k6, d0, d1, d2, D, dn, dc, d4, rfl, hr6, he6, hrep6, hrd6, hg6⟩ := hT.ok h0
    have hzz := HZ1.out.grown hg6 (by intro e; injection e with e; have := HLT.out; omega)
    obtain ⟨z0, z1, z2, z3, z4⟩ := cells5 hzz
    obtain ⟨f0, f1, f2, f3, f4⟩ := frozen5 hzz
    have HSET := Lib.hid (blk_setE hzz (.int .i64 d0) (.string d1) (.int .i64 d2) (.slice D dn dc) (.int .i64 d4))
    have HT := Lib.hid (Tells.set (dp := dp) h0 hr6 he6 hrep6 hrd6 ((Keep.toRow HG1.out).trans hg6) HSET.out.2 (Nat.le_refl _) (by rw [HS1.out]; omega) HLT.out HTL.out HML.out rfl)
    clear hT h0 hr6 he6 hrep6 hrd6 hg6 hzz
    go_wp2
    exact bodyPost_ret (results_blkE Tryz.results143 _ _ w.heap.size _ _ _ rfl HSET.out.1 Tryz.underlying42 rfl sizeExpr) rfl HT.out
  · have HF := Lib.hid ((hT.bad h0).from (Keep.toRow HG1.out))
    obtain ⟨b, rfl, _⟩ := hT.bad h0
    clear hT
    go_wp2
    exact ⟨rfl, .inr ⟨h0, HF.out⟩⟩
set_option maxRecDepth 100000 in
set_option maxHeartbeats 1000000 in
theorem either_any {rb tb o c nr dp : Nat} {ts : List TokM} {next : List TokM → ResE} (ha : PartAsk 143 rb tb o c ts nr dp next) (hcut : Cuts next) (ho : AllOwn ts) (hz : ts.length ≤ 1000000) :
    PartAsk 110 rb tb o c ts nr dp (linkOf wOr 8 next) := fun w k h he => by
  have HLT := Lib.hid h.blk.lt
  have HTL := Lib.hid h.lt
  have HML := Lib.hid (Blk.lt h.marks)
  obtain ⟨w1, hw1⟩ : ∃ W, W = w.alloc (.cells #[.int .i64 0, .string ⟨#[]⟩, .int .i64 0, .slice none 0 0, .int .i64 0] 42) := ⟨_, rfl⟩
  have HG1 : Hid (w.grownBy w1 none) := Lib.hid (by rw [hw1]; exact World.grownBy_alloc _ _ none)
  have HZ1 : Hid (Blk w1 w.heap.size 42 zerosE) := Lib.hid (by rw [hw1]; exact blkNew w zerosE _)
  have HS1 : Hid (w1.heap.size = w.heap.size + 1) := Lib.hid (by rw [hw1]; simp)
  have HC := Lib.hid (chain_any (f := 143) eg_both ha hcut wOr 8 ho (by decide) (by decide) hz (h.keep HG1.out) he)
  obtain ⟨r, hr⟩ : ∃ r, r = linkOf wOr 8 next (ts.drop k) := ⟨_, rfl⟩
  rw [← hr] at HC ⊢
  have hmf : ∀ (fn : Fn) (first cap : Array Value) (w : World), (Instr.makeFunc fn first cap).run Tryz.prog w = .ok (.func fn first cap) w := fun _ _ _ _ => rfl
  clear h ha he hr
  go_enter Tryz.func110, Tryz.ntmps110
  go_wp2_with fail
  rw [← hw1]
  refine HC.out.mono ?_
  rintro e w2 hT
  by_cases h0 : r.2.2 = 0
  · obtain ⟨k6, d0, d1, d2, D, dn, dc, d4, rfl, hr6, he6, hrep6, hrd6, hg6⟩ := hT.ok h0
    have hzz := HZ1.out.grown hg6 (by intro e; injection e with e; have := HLT.out; omega)
    obtain ⟨z0, z1, z2, z3, z4⟩ := cells5 hzz
    obtain ⟨f0, f1, f2, f3, f4⟩ := frozen5 hzz
    have HSET := Lib.hid (blk_setE hzz (.int .i64 d0) (.string d1) (.int .i64 d2) (.slice D dn dc) (.int .i64 d4))
    have HT := Lib.hid (Tells.set (dp := dp) h0 hr6 he6 hrep6 hrd6 ((Keep.toRow HG1.out).trans hg6) HSET.out.2 (Nat.le_refl _) (by rw [HS1.out]; omega) HLT.out HTL.out HML.out rfl)
    clear hT h0 hr6 he6 hrep6 hrd6 hg6 hzz
    go_wp2
    exact bodyPost_ret (results_blkE Tryz.results110 _ _ w.heap.size _ _ _ rfl HSET.out.1 Tryz.underlying42 rfl sizeExpr) rfl HT.out
  · have HF := Lib.hid ((hT.bad h0).from (Keep.toRow HG1.out))
    obtain ⟨b, rfl, _⟩ := hT.bad h0
    clear hT
    go_wp2
    exact ⟨rfl, .inr ⟨h0, HF.out⟩⟩
end Go.Proofs.YtcjfealalokjaaaGreatDoor
namespace Go.Proofs.YtcjfealalokjaaaGreatDoor
open Go Go.RowKit
theorem level_all {rb tb o c nr : Nat} {ts : List TokM} (ho : AllOwn ts) (hz : ts.length ≤ 1000) (hsz : ∀ t ∈ ts, t.text.size ≤ 1000000) : ∀ (d dp : Nat), dp + d = 12 →
    PartAsk 110 rb tb o c ts nr dp (orD d) ∧ PartAsk 168 rb tb o c ts nr dp (notD d) := by
  have step : ∀ (d dp : Nat) (go gn : Option (List TokM → ResE)), (go = none → dp = 12) → (∀ n, go = some n → dp < 12 ∧ PartAsk 110 rb tb o c ts nr (dp + 1) n) → (gn = none → dp = 12) → (∀ n, gn = some n → dp < 12 ∧ PartAsk 168 rb tb o c ts nr (dp + 1) n) →
      belowOr d = go → belowNot d = gn → PartAsk 110 rb tb o c ts nr dp (orD d) ∧ PartAsk 168 rb tb o c ts nr dp (notD d) := fun d dp go gn h1 h2 h3 h4 e1 e2 => by
    subst e1; subst e2
    have a1 : PartAsk 208 rb tb o c ts nr dp (opdD d) := operand_any h1 h2 ho (by omega) hsz (fun _ _ => trivial)
    have a2 : PartAsk 186 rb tb o c ts nr dp (cmpD d) := compared_any a1 (opdD_cuts d) ho hz
    have a3 : PartAsk 168 rb tb o c ts nr dp (notD d) := by
      rw [notD_is]; exact negated_any h3 h4 a2 ho (by omega)
    have a4 : PartAsk 143 rb tb o c ts nr dp (andD d) := both_any a3 (lvl_cuts d).2 ho (by omega)
    exact ⟨by rw [orD_is]; exact either_any a4 (andD_cuts d) ho (by omega), a3⟩
  intro d
  induction d with
  | zero => exact fun dp h => step 0 dp none none (fun _ => by omega) (fun n e => by cases e) (fun _ => by omega) (fun n e => by cases e) rfl rfl
  | succ d ih =>
    intro dp h
    obtain ⟨i1, i2⟩ := ih (dp + 1) (by omega)
    exact step (d + 1) dp (some (orD d)) (some (notD d)) (fun e => by cases e) (fun n e => by injection e with e; subst e; exact ⟨by omega, i1⟩) (fun e => by cases e) (fun n e => by injection e with e; subst e; exact ⟨by omega, i2⟩) rfl rfl
end Go.Proofs.YtcjfealalokjaaaGreatDoor
namespace Go.Proofs.YtcjfealalokjaaaGreatDoor
open Go Go.RowKit
/-- Texts, from the place of one on. -/
def moreS (l : List ByteArray) (r : List TokM) : List ByteArray × List TokM × Int :=
  if isT r 4 kComma = false then (l, r, 0)
  else if (hdT (r.drop 1)).kind ≠ 2 then ([], r.drop 1, 120)
  else if _h : (r.drop 2).length < r.length then moreS (l ++ [(hdT (r.drop 1)).text]) (r.drop 2)
  else ([], r, -1)
termination_by r.length
decreasing_by exact _h
def listS (r : List TokM) : List ByteArray × List TokM × Int := if (hdT r).kind ≠ 2 then ([], r, 120) else moreS [(hdT r).text] (r.drop 1)
theorem more_scopes (l : List ByteArray) (r : List TokM) (hr : Ends r) :
    moreS l r = if isT r 4 kComma = false then (l, r, 0) else if (scopesGo r).2.2 ≠ 0 then ([], (scopesGo r).2) else (l ++ (scopesGo r).1, (scopesGo r).2) := by
  rw [moreS]
  by_cases h1 : isT r 4 kComma = false
  · rw [if_pos h1, if_pos h1]
  rw [if_neg h1, if_neg h1]
  have he := hr.next (Bool.not_eq_false _ |>.mp h1) (by decide)
  rw [scopesGo]
  by_cases h2 : (hdT (r.drop 1)).kind ≠ 2
  · rw [if_pos h2, if_pos h2, if_pos (show (120 : Int) ≠ 0 by decide)]
  rw [if_neg h2, if_neg h2]
  have he2 := he.tail (by rw [Decidable.of_not_not h2]; decide)
  rw [List.drop_drop] at he2
  have hl := he2.len
  have hlt : (r.drop 2).length < r.length := by rw [List.length_drop] at hl ⊢; omega
  rw [dif_pos hlt, more_scopes _ _ he2]
  by_cases h3 : isT (r.drop 2) 4 kComma = false
  · rw [if_pos h3, if_pos h3, if_neg (show ¬ (0 : Int) ≠ 0 by decide)]
  rw [if_neg h3, if_neg h3, dif_pos hlt]
  by_cases h4 : (scopesGo (r.drop 2)).2.2 ≠ 0
  · rw [if_pos h4, if_pos h4, if_pos h4]
  · rw [if_neg h4, if_neg h4, if_neg (show ¬ (0 : Int) ≠ 0 by decide), List.append_assoc]; exact congrArg (Prod.mk _) (Prod.ext rfl (Decidable.of_not_not h4))
termination_by r.length
decreasing_by exact hlt
theorem list_scopes (r : List TokM) (hr : Ends (r.drop 1)) (hl : (r.drop 1).length < r.length) : scopesGo r = if (listS (r.drop 1)).2.2 ≠ 0 then ([], (listS (r.drop 1)).2) else listS (r.drop 1) := by
  rw [scopesGo]
  unfold listS
  by_cases h2 : (hdT (r.drop 1)).kind ≠ 2
  · rw [if_pos h2, if_pos h2, if_pos (show (120 : Int) ≠ 0 by decide)]
  rw [if_neg h2, if_neg h2]
  have he2 := hr.tail (by rw [Decidable.of_not_not h2]; decide)
  rw [List.drop_drop] at he2 ⊢
  have hlt : (r.drop 2).length < r.length := by
    have h0 := he2.len
    rw [List.length_drop] at h0 ⊢; omega
  rw [more_scopes _ _ he2]
  by_cases h3 : isT (r.drop 2) 4 kComma = false
  · rw [if_pos h3, if_pos h3, if_neg (show ¬ (0 : Int) ≠ 0 by decide)]
  rw [if_neg h3, if_neg h3, dif_pos hlt]
  by_cases h4 : (scopesGo (r.drop 2)).2.2 ≠ 0
  · rw [if_pos h4, if_pos h4, if_pos h4]
  · rw [if_neg h4, if_neg h4, if_neg h4]; exact congrArg (Prod.mk ((hdT (r.drop 1)).text :: (scopesGo (r.drop 2)).1)) (show ((scopesGo (r.drop 2)).2.1, (0 : Int)) = (scopesGo (r.drop 2)).2 from Prod.ext rfl (Decidable.of_not_not h4).symm)
/-- What reading texts tells. -/
def TellsS (w : World) (rb tb o c : Nat) (ts : List TokM) (nr dp : Nat) (r : List ByteArray × List TokM × Int) (e : Ending) (w' : World) : Prop :=
  (r.2.2 = 0 ∧ ∃ k A cc, e = .returned (.slice A r.1.length cc) ∧ r.2.1 = ts.drop k ∧ Ends (ts.drop k) ∧ RepSt w' (fun b => w.heap.size ≤ b) r.1 (.slice A r.1.length cc) ∧ r.1.length ≤ k ∧ Rdr w' rb tb o c ts k nr dp ∧ w.grownBy w' (some rb)) ∨
  (r.2.2 ≠ 0 ∧ Gives w rb (hdT r.2.1).pos r.2.2 e w')
/-- Between two texts. -/
structure LtI (w wr : World) (rb tb o c : Nat) (ts : List TokM) (nr dp j : Nat) (l : List ByteArray) (v : Value) : Prop where
  own : wr.ownsRow w.heap.size 9 1 v l.length (l.map Value.string)
  rdr : Rdr wr rb tb o c ts j nr dp
  grown : w.grownBy wr (some rb)
  ends : Ends (ts.drop j)
  lt : rb < w.heap.size
  tl : tb < w.heap.size
  ml : 2 < w.heap.size
  cnt : l.length ≤ j
  siz : ∀ s ∈ l, s.size ≤ 1000000
theorem LtI.keep {w wr w' : World} {rb tb o c : Nat} {ts : List TokM} {nr dp j j' : Nat} {l : List ByteArray} {v : Value} (h : LtI w wr rb tb o c ts nr dp j l v) (hg : wr.grownBy w' (some rb)) (hr : Rdr w' rb tb o c ts j' nr dp) (he : Ends (ts.drop j')) (hj : j ≤ j') : LtI w w' rb tb o c ts nr dp j' l v :=
  ⟨h.own.kept hg (.inr (fun e => by have := (h.own.lt _ e).1; have := h.lt; omega)), hr, h.grown.trans hg, he, h.lt, h.tl, h.ml, Nat.le_trans h.cnt hj, h.siz⟩
theorem LtI.snoc {w w7 w8 : World} {rb tb o c : Nat} {ts : List TokM} {nr dp j : Nat} {l : List ByteArray} {v v' : Value} {s : ByteArray} (h : LtI w w7 rb tb o c ts nr dp j l v) (hs : s.size ≤ 1000000)
    (ho : w8.ownsRow w.heap.size 9 1 v' (l.length + 1) (l.map Value.string ++ [.string s])) (hg : w7.grownBy w8 v.ownBlock) (hj : l.length + 1 ≤ j) : LtI w w8 rb tb o c ts nr dp j (l ++ [s]) v' := by
  have hge : ∀ x, v.ownBlock = some x → w.heap.size ≤ x := fun x e => (h.own.lt x e).1
  have hb1 := h.lt
  have hb2 := h.tl
  have hb3 := h.ml
  refine ⟨by rw [List.length_append, List.map_append]; exact ho, ?_, h.grown.andThen hg (fun x e => .inl (hge x e)), h.ends, h.lt, h.tl, h.ml, by rw [List.length_append]; exact hj, fun t ht => ?_⟩
  · cases e : v.ownBlock with
    | none => rw [e] at hg; exact h.rdr.keep hg
    | some x =>
      rw [e] at hg
      have := hge x e
      exact h.rdr.other hg (by omega) (by omega) (by omega)
  · rcases List.mem_append.1 ht with ht | ht
    · exact h.siz t ht
    · rw [List.mem_singleton.1 ht]; exact hs
theorem own_form1 {w : World} {base n : Nat} {e : TypeId} {v : Value} {xs : List Value} (h : w.ownsRow base e 1 v (n + 1) xs) : ∃ g cap, v = .slice (some ⟨g, 0, none⟩) (n + 1) cap := by
  rcases h.2 with ⟨_, h⟩ | ⟨g, cap, cur, h, _⟩
  · cases h
  · exact ⟨g, cap, h⟩
theorem infoStrP : (Tryz.prog.info? 9).map (fun i => (i.zero, i.size, i.bytes)) = some (some (.string ByteArray.empty), 1, 16) := by kernel_rfl
theorem eg_text : ∀ args w, (callFunc 109 args).run Tryz.prog w = .ok (.enter 109 args) w := enters_of Tryz.func109 (by kernel_rfl) rfl
set_option maxRecDepth 100000 in
set_option maxHeartbeats 4000000 in
theorem listedS_any {rb tb o c nr dp : Nat} {ts : List TokM} (ho : AllOwn ts) (hz : ts.length ≤ 1000) (hsz : ∀ t ∈ ts, t.text.size ≤ 1000000) {w : World} {k : Nat} (h : Rdr w rb tb o c ts k nr dp) (he : Ends (ts.drop k)) :
    Calls Tryz.prog 108 #[.pointer (some ⟨rb, 0, none⟩), .func (.func 109) #[.pointer (some ⟨rb, 0, none⟩)] #[]] w (TellsS w rb tb o c ts nr dp (listS (ts.drop k))) := by
  have HTY := Lib.hid (fun W j (hr : Rdr W rb tb o c ts j nr dp) (hj : j < ts.length) (h2 : (hdT (ts.drop j)).kind = 2) => polText_yes hr (hd_at hj) h2 (by omega))
  have HTN := Lib.hid (fun W j (hr : Rdr W rb tb o c ts j nr dp) (hj : j < ts.length) (h2 : (hdT (ts.drop j)).kind ≠ 2) => polText_no hr (hd_at hj) h2)
  have HW := Lib.hid (fun j : Nat => said_iff (k := j) ho (s := kComma) (by decide) (by decide))
  have HLT := Lib.hid h.blk.lt
  have HTL := Lib.hid h.lt
  have HML := Lib.hid (Blk.lt h.marks)
  have HSI := Lib.hid (fun j => hd_size hsz j)
  have hk := ends_lt he
  have eg := eg_text
  obtain ⟨i0, hi0, hz0, hz1, hz2⟩ := info_parts infoStrP
  obtain ⟨res, hres⟩ : ∃ r, r = listS (ts.drop k) := ⟨_, rfl⟩
  rw [← hres]
  unfold listS at hres
  rw [drop_one] at hres
  have HRES := Lib.hid hres
  clear hres
  by_cases h0 : (hdT (ts.drop k)).kind = 2
  · have HP1 := Lib.hid (HTY.out w k h hk h0)
    have he1 := he.tail (by rw [h0]; decide)
    rw [drop_one] at he1
    have HE1 := Lib.hid he1
    have HRES2 : Hid (res = moreS [(hdT (ts.drop k)).text] (ts.drop (k + 1))) := Lib.hid (HRES.out.trans (if_neg (by simpa using h0)))
    have HS0 := Lib.hid (HSI.out k)
    obtain ⟨x, hx⟩ : ∃ x, x = (hdT (ts.drop k)).text := ⟨_, rfl⟩
    rw [← hx] at HP1 HRES2 HS0
    clear h h0 he he1 hx hk HRES
    go_enter Tryz.func108, Tryz.ntmps108
    go_wp2_with fail
    (with_reducible refine HP1.out.mono ?_)
    rintro e w2 ⟨rfl, hg2, hr2⟩
    have ga := World.grownBy_alloc w2 (.cells #[.string x] 9) none
    have HI : Hid (LtI w (w2.alloc (.cells #[.string x] 9)) rb tb o c ts nr dp (k + 1) [x] (.slice (some ⟨w2.heap.size, 0, none⟩) 1 1)) := Lib.hid ⟨World.ownsRow_lit w2 #[.string x] 1 hg2.size (by unfold maxLen; omega) rfl, hr2.keep ga, hg2.trans (Keep.toRow ga), HE1.out, HLT.out, HTL.out, HML.out, by simp, fun s hs => by rw [List.mem_singleton.1 hs]; exact HS0.out⟩
    clear hg2 hr2 ga
    go_wp2_with fail
    go_loopw [5] (fun v wr => ∃ j l A n cc, v = .slice A n cc ∧ LtI w wr rb tb o c ts nr dp j l (.slice A n cc) ∧ l.length = n ∧ res = moreS l (ts.drop j)) (fun _ wr => ts.length - posR wr rb)
    case atStart => exact ⟨k + 1, [x], _, 1, 1, rfl, HI.out, rfl, HRES2.out⟩
    case round =>
      clear HI HRES2 HP1
      obtain ⟨j, l, B, m, d, rfl, hI, hln, hres⟩ := hrel
      have HI := Lib.hid hI
      have HRS := Lib.hid hres
      have HLN := Lib.hid hln
      have HPOS := Lib.hid (posR_is hI.rdr)
      have hjl := ends_lt hI.ends
      have hsw := HW.out j
      clear hI hres hln
      by_cases hwd : isT (ts.drop j) 4 kComma = false
      · have HG := Lib.hid (polGoes_no (s := kComma) HI.out.rdr (hd_at hjl) (fun e => by rw [hsw.1 e] at hwd; cases hwd))
        have HRS2 : Hid (res = (l, ts.drop j, 0)) := Lib.hid (by rw [HRS.out, moreS, if_pos hwd])
        clear hwd hsw
        go_wp2_with fail
        (with_reducible refine HG.out.mono ?_)
        rintro e w5 ⟨rfl, hg5⟩
        have HI5 := Lib.hid (HI.out.keep (Keep.toRow hg5) (HI.out.rdr.keep hg5) HI.out.ends (Nat.le_refl _))
        clear hg5
        go_wp2
        go_ret
        rw [HRS2.out]
        have hm : m = l.length := HLN.out.symm
        subst hm
        have hcn := HI5.out.cnt
        have hjj := ends_lt HI5.out.ends
        exact .inl ⟨rfl, j, B, d, rfl, rfl, HI5.out.ends, own_texts HI5.out.own (fun b hb => hb) (by show l.length ≤ _; omega) (fun t ht => by have := HI5.out.siz t ht; omega), hcn, HI5.out.rdr, HI5.out.grown⟩
      · have hwd := Bool.not_eq_false _ |>.mp hwd
        have HG := Lib.hid (polGoes_yes (s := kComma) HI.out.rdr (hd_at hjl) (hsw.2 hwd) (by omega))
        have he1 := HI.out.ends.next hwd (by decide)
        rw [drop_one] at he1
        have HE := Lib.hid he1
        have hk1 := ends_lt he1
        have HRS2 : Hid (res = if (hdT (ts.drop (j + 1))).kind ≠ 2 then ([], ts.drop (j + 1), 120) else if ((ts.drop j).drop 2).length < (ts.drop j).length then moreS (l ++ [(hdT (ts.drop (j + 1))).text]) ((ts.drop j).drop 2) else ([], ts.drop j, -1)) := Lib.hid (by
          rw [HRS.out, moreS, if_neg (by rw [hwd]; simp), drop_one]
          rfl)
        clear hwd hsw
        by_cases hn : (hdT (ts.drop (j + 1))).kind = 2
        · have he2 := he1.tail (by rw [hn]; decide)
          rw [drop_one] at he2
          have HE2 := Lib.hid he2
          have HT2 := Lib.hid (fun W hr => HTY.out W (j + 1) hr hk1 hn)
          have HRS7 : Hid (res = moreS (l ++ [(hdT (ts.drop (j + 1))).text]) (ts.drop (j + 2))) := Lib.hid (by
            have h2 := ends_lt he2
            rw [HRS2.out, if_neg (by simpa using hn), if_pos (by rw [List.length_drop, List.length_drop]; omega), List.drop_drop])
          have HS2 := Lib.hid (HSI.out (j + 1))
          obtain ⟨y, hy⟩ : ∃ y, y = (hdT (ts.drop (j + 1))).text := ⟨_, rfl⟩
          rw [← hy] at HT2 HRS7 HS2
          clear hn he1 he2 hy hk1 HRS2
          go_wp2_with fail
          (with_reducible refine HG.out.mono ?_)
          rintro e w5 ⟨rfl, hg5, hr5⟩
          have HI5 := Lib.hid (HI.out.keep hg5 hr5 HE.out (by omega))
          have HT5 := Lib.hid (HT2.out w5 hr5)
          clear hg5 hr5
          go_wp2_with fail
          (with_reducible refine HT5.out.mono ?_)
          rintro e w6 ⟨rfl, hg6, hr6⟩
          have HI6 := Lib.hid (HI5.out.keep hg6 hr6 HE2.out (by omega))
          have ga := World.grownBy_alloc w6 (.cells #[.string y] 9) none
          have HI7 := Lib.hid (HI6.out.keep (Keep.toRow ga) (hr6.keep ga) HE2.out (Nat.le_refl _))
          have HV7 : Hid (Blk (w6.alloc (.cells #[.string y] 9)) w6.heap.size 9 [.string y]) := Lib.hid (blkNew w6 [.string y] _)
          have hown7 := HI7.out.own
          rw [HLN.out] at hown7
          have HO7 := Lib.hid hown7
          have HS7 : Hid (w.heap.size ≤ w6.heap.size) := Lib.hid HI6.out.grown.size
          have hml : m ≤ 1000 := by
            have h1 := HI5.out.cnt
            have h2 := ends_lt HI5.out.ends
            rw [HLN.out] at h1; omega
          clear hg6 hr6 ga hown7
          go_wp2_with (at_builtin; (refine wpList_append_own_at _ rfl _ _ 43 rfl w.heap.size 9 i0 (.string ByteArray.empty) 1 16 Tryz.underlying43 hi0 hz0 hz1 hz2 rfl (by decide) _ m _ rfl HO7.out ⟨w6.heap.size, 0, none⟩ 1 1 [.string y] rfl rfl ?c1 ?c2 ?c3 ?c4 ?c5 ?_))
          case c1 =>
            have hv := HV7.out
            intro i u hi
            match i, hi with
            | 0, hi => simp at hi; subst hi; exact hv.cell 0
          case c2 => intro u hu; simp at hu; subst hu; rfl
          case c3 => unfold maxLen; omega
          case c4 => omega
          case c5 => have := HS7.out; simp; omega
          intro v' w8 hown8 hg8 hnil8 hob8
          obtain ⟨g8, cap8, rfl⟩ := own_form1 hown8
          have HI8 := Lib.hid (HI7.out.snoc HS2.out (by rw [HLN.out]; exact hown8) hg8 (by have := HI5.out.cnt; omega))
          clear hown8 hg8 hnil8 hob8
          go_wp2_with fail
          go_roundw
          case rel => exact ⟨j + 2, l ++ [y], _, m + 1, cap8, by go_num, HI8.out, by rw [List.length_append, HLN.out]; rfl, HRS7.out⟩
          case measure =>
            have h2 := ends_lt HI8.out.ends
            rw [HPOS.out, posR_is HI8.out.rdr]; omega
        · have HT2 := Lib.hid (fun W hr => HTN.out W (j + 1) hr hk1 hn)
          have HRS3 : Hid (res = ([], ts.drop (j + 1), 120)) := Lib.hid (HRS2.out.trans (if_pos hn))
          clear hn he1 hk1 HRS2
          go_wp2_with fail
          (with_reducible refine HG.out.mono ?_)
          rintro e w5 ⟨rfl, hg5, hr5⟩
          have HT5 := Lib.hid (HT2.out w5 hr5)
          have HG5 := Lib.hid (HI.out.grown.trans hg5)
          clear hg5 hr5
          go_wp2_with fail
          (with_reducible refine HT5.out.mono ?_)
          rintro e w6 hG
          have HF := Lib.hid (hG.from HG5.out)
          obtain ⟨b, rfl, _⟩ := hG
          go_wp2
          refine ⟨rfl, ?_⟩
          rw [HRS3.out]
          exact .inr ⟨(by show (120 : Int) ≠ 0; decide), HF.out⟩
  · have HP1 := Lib.hid (HTN.out w k h hk h0)
    have HRES2 : Hid (res = ([], ts.drop k, 120)) := Lib.hid (HRES.out.trans (if_pos h0))
    clear h h0 he hk HRES
    go_enter Tryz.func108, Tryz.ntmps108
    go_wp2_with fail
    (with_reducible refine HP1.out.mono ?_)
    rintro e w2 hG
    have HF := Lib.hid hG
    obtain ⟨b, rfl, _⟩ := hG
    go_wp2
    refine ⟨rfl, ?_⟩
    rw [HRES2.out]
    exact .inr ⟨(by show (120 : Int) ≠ 0; decide), HF.out⟩
end Go.Proofs.YtcjfealalokjaaaGreatDoor
namespace Go.Proofs.YtcjfealalokjaaaGreatDoor
open Go Go.RowKit
set_option maxRecDepth 100000 in
theorem begin_yes {w : World} {rb tb o c k nr dp : Nat} {ts : List TokM} (h : Rdr w rb tb o c ts k nr dp) (hk : k < ts.length) (hn : nr < 16) (hz : ts.length ≤ 1000000) :
    Calls Tryz.prog 105 #[.pointer (some ⟨rb, 0, none⟩)] w fun e w' => e = .returned (.tuple #[]) ∧ w.grownBy w' (some rb) ∧ Rdr w' rb tb o c ts (k + 1) (nr + 1) dp := by
  have HR := Lib.hid h
  obtain ⟨⟨c0, c1, c2, c3⟩, f0, f1, f2, f3⟩ := h.cells
  have HWR : Hid (wrap64 ((k : Int) + 1) = ((k + 1 : Nat) : Int)) := Lib.hid (by unfold wrap64; omega)
  have hwn : wrap64 ((nr : Int) + 1) = ((nr + 1 : Nat) : Int) := by unfold wrap64; omega
  have hle : ¬ (16 : Int) < ((nr + 1 : Nat) : Int) := by omega
  have hle2 : ¬ (16 : Int) < (nr : Int) + 1 := by omega
  clear h hk
  go_enter Tryz.func105, Tryz.ntmps105
  go_wp2
  go_end0
  rw [HWR.out]
  exact ⟨rfl, (grownBy_setCell w rb 2 _).trans (grownBy_setCell _ rb 1 _), (HR.out.rises (nr + 1)).goes (k + 1)⟩
set_option maxRecDepth 100000 in
theorem begin_no {w : World} {rb tb o c k nr dp : Nat} {ts : List TokM} {t : TokM} (h : Rdr w rb tb o c ts k nr dp) (ht : ts[k]? = some t) (hn : nr = 16) :
    Calls Tryz.prog 105 #[.pointer (some ⟨rb, 0, none⟩)] w (Gives w rb t.pos 132) := by
  subst hn
  have h17 : Rdr (w.setCell ⟨rb, 2, none⟩ (.int .i64 17)) rb tb o c ts k 17 dp := h.rises 17
  have HG := Lib.hid (polGiveUp_any h17 ht 132)
  obtain ⟨⟨c0, c1, c2, c3⟩, f0, f1, f2, f3⟩ := h.cells
  clear h h17 ht
  go_enter Tryz.func105, Tryz.ntmps105
  go_wp2_with fail
  (with_reducible refine HG.out.mono ?_)
  rintro e w2 hG
  have HF := Lib.hid (hG.from (grownBy_setCell w rb 2 _))
  obtain ⟨b, rfl, _⟩ := hG
  go_wp2
  exact ⟨rfl, HF.out⟩
/-- A rule, behind k of them. -/
def ruleK (nr : Nat) (r : List TokM) : RuleM × List TokM × Int := if isT r 1 wDeny = false ∧ isT r 1 wPermit = false then (rule0, r, 120) else if nr = 16 then (rule0, r, 132) else ruleP r
/-- What reading a rule tells. -/
def TellsR (w : World) (rb tb o c : Nat) (ts : List TokM) (nr dp : Nat) (r : RuleM × List TokM × Int) (e : Ending) (w' : World) : Prop :=
  (r.2.2 = 0 ∧ ∃ k d A n cc B m cd p, e = .returned (.agg #[.bool d, .slice A n cc, .slice B m cd, .int .i64 p]) ∧ r.2.1 = ts.drop k ∧ Ends (ts.drop k) ∧ RepR w' (fun b => w.heap.size ≤ b) r.1 (.agg #[.bool d, .slice A n cc, .slice B m cd, .int .i64 p]) ∧ Rdr w' rb tb o c ts k (nr + 1) dp ∧ w.grownBy w' (some rb)) ∨
  (r.2.2 ≠ 0 ∧ Gives w rb (hdT r.2.1).pos r.2.2 e w')
theorem sizeRule : (Tryz.prog.info? 45).map (·.size) = some 4 := by kernel_rfl
theorem scopes_is (r : List TokM) (h : isT r 1 wScope = true) (hr : Ends r) : scopesP r = if (listS (r.drop 1)).2.2 ≠ 0 then ([], (listS (r.drop 1)).2) else listS (r.drop 1) := by
  unfold scopesP
  rw [if_pos h]
  have h1 := hr.next h (by decide)
  exact list_scopes r h1 (by have := h1.len; rw [List.length_drop] at this ⊢; omega)
theorem cells4 {w : World} {g : Nat} {t : TypeId} {x0 x1 x2 x3 : Value} (h : Blk w g t [x0, x1, x2, x3]) : w.cell? ⟨g, 0, none⟩ = some x0 ∧ w.cell? ⟨g, 1, none⟩ = some x1 ∧ w.cell? ⟨g, 2, none⟩ = some x2 ∧ w.cell? ⟨g, 3, none⟩ = some x3 := ⟨h.cell 0, h.cell 1, h.cell 2, h.cell 3⟩
theorem frozen4 {w : World} {g : Nat} {t : TypeId} {x0 x1 x2 x3 : Value} (h : Blk w g t [x0, x1, x2, x3]) : w.frozen? ⟨g, 0, none⟩ = false ∧ w.frozen? ⟨g, 1, none⟩ = false ∧ w.frozen? ⟨g, 2, none⟩ = false ∧ w.frozen? ⟨g, 3, none⟩ = false := ⟨h.frozen 0, h.frozen 1, h.frozen 2, h.frozen 3⟩
theorem blk_setR {w : World} {g : Nat} {t : TypeId} {y0 y1 y2 y3 : Value} (hb : Blk w g t [y0, y1, y2, y3]) (z0 z1 z2 z3 : Value) :
    Blk ((((w.setCell ⟨g, 0, none⟩ z0).setCell ⟨g, 1, none⟩ z1).setCell ⟨g, 2, none⟩ z2).setCell ⟨g, 3, none⟩ z3) g t [z0, z1, z2, z3] ∧
    w.grownBy ((((w.setCell ⟨g, 0, none⟩ z0).setCell ⟨g, 1, none⟩ z1).setCell ⟨g, 2, none⟩ z2).setCell ⟨g, 3, none⟩ z3) (some g) :=
  ⟨(((hb.setCell 0 z0).setCell 1 z1).setCell 2 z2).setCell 3 z3, (((grownBy_setCell w g 0 z0).trans (grownBy_setCell _ g 1 z1)).trans (grownBy_setCell _ g 2 z2)).trans (grownBy_setCell _ g 3 z3)⟩
abbrev zerosR : List Value := [.bool false, .slice none 0 0, .slice none 0 0, .int .i64 0]
/-- A rule that is being read: its block, the result's, the reader. -/
structure RuI (w W : World) (rb tb o c : Nat) (ts : List TokM) (vb j nr dp : Nat) (d : Bool) (A : Option Addr) (n cc : Nat) (B : Option Addr) (m cd : Nat) (p : Int) (sc : List ByteArray) (wh : List Ex) : Prop where
  blk : Blk W vb 45 [.bool d, .slice A n cc, .slice B m cd, .int .i64 p]
  zero : Blk W w.heap.size 45 zerosR
  rdr : Rdr W rb tb o c ts j nr dp
  grown : w.grownBy W (some rb)
  scop : RepSt W (fun b => w.heap.size < b ∧ b ≠ vb) sc (.slice A n cc)
  when_ : RepL W (fun b => w.heap.size < b ∧ b ≠ vb) wh (.slice B m cd)
  ends : Ends (ts.drop j)
  gt : w.heap.size < vb
  lt : rb < w.heap.size
  tl : tb < w.heap.size
  ml : 2 < w.heap.size
theorem RuI.keep {w W W' : World} {rb tb o c : Nat} {ts : List TokM} {vb j j' nr nr' dp : Nat} {d : Bool} {A : Option Addr} {n cc : Nat} {B : Option Addr} {m cd : Nat} {p : Int} {sc : List ByteArray} {wh : List Ex} (h : RuI w W rb tb o c ts vb j nr dp d A n cc B m cd p sc wh) (hg : W.grownBy W' (some rb)) (hr : Rdr W' rb tb o c ts j' nr' dp) (he : Ends (ts.drop j')) : RuI w W' rb tb o c ts vb j' nr' dp d A n cc B m cd p sc wh :=
  have h1 := h.gt
  have h2 := h.lt
  ⟨h.blk.grown hg (by intro e; injection e with e; omega), h.zero.grown hg (by intro e; injection e with e; omega), hr, h.grown.trans hg, h.scop.keeps (Keeps.grown hg (fun b (hb : _ ∧ _) e => by injection e with e; omega)) (fun b hb _ => hb), RepL.keeps (Keeps.grown hg (fun b (hb : _ ∧ _) e => by injection e with e; omega)) (fun b hb _ => hb) h.when_, he, h.gt, h.lt, h.tl, h.ml⟩
/-- A cell of the rule's block is written. -/
theorem RuI.put {w W : World} {rb tb o c : Nat} {ts : List TokM} {vb j nr dp i : Nat} {d d' : Bool} {A A' : Option Addr} {n cc n' cc' : Nat} {B B' : Option Addr} {m cd m' cd' : Nat} {p : Int} {sc sc' : List ByteArray} {wh wh' : List Ex} {x : Value} (h : RuI w W rb tb o c ts vb j nr dp d A n cc B m cd p sc wh)
    (hb : [.bool d', .slice A' n' cc', .slice B' m' cd', .int .i64 p] = [Value.bool d, .slice A n cc, .slice B m cd, .int .i64 p].set i x) (h1 : RepSt W (fun b => w.heap.size < b ∧ b ≠ vb) sc' (.slice A' n' cc')) (h2 : RepL W (fun b => w.heap.size < b ∧ b ≠ vb) wh' (.slice B' m' cd')) :
    RuI w (W.setCell ⟨vb, i, none⟩ x) rb tb o c ts vb j nr dp d' A' n' cc' B' m' cd' p sc' wh' := by
  have gs := grownBy_setCell W vb i x
  have g1 := h.gt
  have g2 := h.lt
  have g3 := h.tl
  have g4 := h.ml
  exact ⟨by rw [hb]; exact h.blk.setCell i x, h.zero.grown gs (by intro e; injection e with e; omega), h.rdr.other gs (by omega) (by omega) (by omega), h.grown.andThen gs (by intro j hj; injection hj with hj; left; omega),
    h1.keeps (Keeps.grown gs (fun b (hb : _ ∧ _) e => by injection e with e; omega)) (fun b hb _ => hb), RepL.keeps (Keeps.grown gs (fun b (hb : _ ∧ _) e => by injection e with e; omega)) (fun b hb _ => hb) h2, h.ends, h.gt, h.lt, h.tl, h.ml⟩
end Go.Proofs.YtcjfealalokjaaaGreatDoor
