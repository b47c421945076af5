/- PolRuleA, PolBack, LxScan, PolSameM, PolText, PolPrint: merged. -/
import Derived.Test.YtcjfealalokjaaaGreatDoorPa14
set_option linter.all false
namespace Go.Proofs.YtcjfealalokjaaaGreatDoor
open Go Go.RowKit
set_option maxRecDepth 100000 in
set_option maxHeartbeats 8000000 in
theorem rule_any {rb tb o c nr : Nat} {ts : List TokM} (ho : AllOwn ts) (hz : ts.length ≤ 1000) (hsz : ∀ t ∈ ts, t.text.size ≤ 1000000) (hnr : nr ≤ 16) {w : World} {k : Nat} (h : Rdr w rb tb o c ts k nr 0) (he : Ends (ts.drop k)) :
    Calls Tryz.prog 56 #[.pointer (some ⟨rb, 0, none⟩)] w (TellsR w rb tb o c ts nr 0 (ruleK nr (ts.drop k))) := by
  have HLT := Lib.hid h.blk.lt
  have HTL := Lib.hid h.lt
  have HML := Lib.hid (Blk.lt h.marks)
  have hk := ends_lt he
  obtain ⟨w1, hw1⟩ : ∃ W, W = w.alloc (.cells #[.bool false, .slice none 0 0, .slice none 0 0, .int .i64 0] 45) := ⟨_, rfl⟩
  have HG1 : Hid (w.grownBy w1 none) := Lib.hid (by rw [hw1]; exact World.grownBy_alloc _ _ none)
  have HR1 := Lib.hid (h.keep HG1.out)
  have HZ1 : Hid (Blk w1 w.heap.size 45 zerosR) := Lib.hid (by rw [hw1]; exact blkNew w zerosR _)
  have HS1 : Hid (w1.heap.size = w.heap.size + 1) := Lib.hid (by rw [hw1]; simp)
  have hmf : ∀ (fn : Fn) (first cap : Array Value) (w : World), (Instr.makeFunc fn first cap).run Tryz.prog w = .ok (.func fn first cap) w := fun _ _ _ _ => rfl
  have HAH := Lib.hid (polAhead_any HR1.out (hd_at hk))
  have HSA := Lib.hid (fun W (hr : Rdr W rb tb o c ts k nr 0) => polSaid_any hr (hd_at hk))
  have HSG := Lib.hid (fun (k : Nat) (s : ByteArray) hw hne => said_iffW (k := k) ho (s := s) hw hne)
  have HSS := Lib.hid (fun k : Nat => said_iff (k := k) ho (s := kSemi) (by decide) (by decide))
  have HEI := Lib.hid (fun W k => (level_all (rb := rb) (tb := tb) (o := o) (c := c) (nr := nr + 1) ho hz hsz 12 0 rfl).1 W k)
  obtain ⟨res, hres⟩ : ∃ r, r = ruleK nr (ts.drop k) := ⟨_, rfl⟩
  rw [← hres]
  unfold ruleK at hres
  have HRES := Lib.hid hres
  clear hres
  have hsd := said_iffW (k := k) ho (s := wDeny) (by decide) (by decide)
  have hsp := said_iffW (k := k) ho (s := wPermit) (by decide) (by decide)
  obtain ⟨pz, hpz⟩ : ∃ p, p = hdT (ts.drop k) := ⟨_, rfl⟩
  have HPP : Hid ((hdT (ts.drop k)).pos = pz.pos) := Lib.hid (by rw [hpz])
  rw [← hpz] at HAH HSA hsd hsp
  obtain ⟨x, hx⟩ : ∃ x, x = saidT pz := ⟨_, rfl⟩
  rw [← hx] at HSA hsd hsp
  have hkx : pz.kind = 5 → isT (ts.drop k) 1 wDeny = false ∧ isT (ts.drop k) 1 wPermit = false := fun e => by
    unfold isT
    rw [← hpz, e]
    exact ⟨decide_eq_false (fun h => absurd h.1 (by decide)), decide_eq_false (fun h => absurd h.1 (by decide))⟩
  have HGU := Lib.hid (fun W (hr : Rdr W rb tb o c ts k nr 0) => polGiveUp_any hr (hd_at hk) 120)
  rw [← hpz] at HGU
  have HN1 : Hid (∀ s, isT (ts.drop k) 1 s = true → Ends (ts.drop (k + 1))) := Lib.hid (fun s h1 => by have := he.next h1 (by decide); rwa [drop_one] at this)
  clear h hpz hx hkx
  obtain ⟨p0, p1, p2, p3⟩ := pz
  simp only at HAH HGU HPP
  have hf := fun w => fieldPos (.int .i64 p0) (.string p1) (.int .i64 p2) (.int .i64 p3) w
  by_cases hd : isT (ts.drop k) 1 wDeny = true
  · have HND : Hid (¬ (isT (ts.drop k) 1 wDeny = false ∧ isT (ts.drop k) 1 wPermit = false)) := Lib.hid (fun h => by rw [hd] at h; cases h.1)
    have HDE := Lib.hid hd
    have he1 := HN1.out wDeny hd
    have hk1 := ends_lt he1
    obtain rfl := hsd.2 hd
    clear hsd hsp hd
    by_cases h16 : nr = 16
    · have HRS16 : Hid (res = (rule0, ts.drop k, 132)) := Lib.hid (HRES.out.trans ((if_neg HND.out).trans (if_pos h16)))
      replace HRS16 : Hid (res = (rule0, ts.drop k, 132) ∧ (hdT (ts.drop k)).pos = p3) := Lib.hid ⟨HRS16.out, HPP.out⟩
      go_enter Tryz.func56, Tryz.ntmps56
      go_wp2_with fail
      rw [← hw1]
      (with_reducible refine HAH.out.mono ?_)
      rintro e w2 ⟨rfl, hg2⟩
      obtain ⟨w3, hw3⟩ : ∃ W, W = w2.alloc (.cells #[.bool false, .slice none 0 0, .slice none 0 0, .int .i64 p3] 45) := ⟨_, rfl⟩
      have g3 : w2.grownBy w3 none := by rw [hw3]; exact World.grownBy_alloc _ _ none
      have hv3 : Blk w3 w2.heap.size 45 [.bool false, .slice none 0 0, .slice none 0 0, .int .i64 p3] := by rw [hw3]; exact blkNew w2 _ _
      have HS3 := Lib.hid (HSA.out w3 ((HR1.out.keep hg2).keep g3))
      have HW3 := Lib.hid hw3
      have HI3 : Hid (RuI w w3 rb tb o c ts w2.heap.size k nr 0 false none 0 0 none 0 0 p3 [] []) := Lib.hid ⟨hv3, (HZ1.out.grownN hg2).grownN g3, (HR1.out.keep hg2).keep g3, (Keep.toRow HG1.out).trans ((Keep.toRow hg2).trans (Keep.toRow g3)), ⟨none, 0, rfl, by simp, fun h => absurd rfl h⟩, ⟨none, 0, rfl, by simp, fun h => absurd rfl h⟩, he, by have := HS1.out; have := hg2.size; omega, HLT.out, HTL.out, HML.out⟩
      clear hg2 g3 hv3 hw3
      go_wp2_with fail
      rw [← HW3.out]
      (with_reducible refine HS3.out.mono ?_)
      rintro e w4 ⟨rfl, hg4⟩
      have HI4 := Lib.hid (HI3.out.keep (Keep.toRow hg4) (HI3.out.rdr.keep hg4) he)
      obtain ⟨c0, c1, c2, c3⟩ := cells4 HI4.out.blk
      obtain ⟨f0, f1, f2, f3⟩ := frozen4 HI4.out.blk
      have l4 := HI4.out.blk.lt
      have l5 := HI4.out.rdr.blk.lt
      have l7 : rb < w2.heap.size := by have := HI4.out.gt; have := HLT.out; omega
      clear hg4 HI3 HS3
      have HIB := Lib.hid (HI4.out.put (i := 0) (x := .bool true) (d' := true) (A' := none) (n' := 0) (cc' := 0) (B' := none) (m' := 0) (cd' := 0) (sc' := []) (wh' := []) rfl HI4.out.scop HI4.out.when_)
      have HB := Lib.hid (begin_no HIB.out.rdr (hd_at hk) h16)
      go_wp2_with fail
      (with_reducible refine HB.out.mono ?_)
      rintro e w5 hG
      have HF := Lib.hid (hG.from HIB.out.grown)
      obtain ⟨b, rfl, _⟩ := hG
      go_wp2
      refine ⟨rfl, ?_⟩
      rw [HRS16.out.1]
      exact .inr ⟨(by show (132 : Int) ≠ 0; decide), HF.out⟩
    · have HRU : Hid (res = ruleP (ts.drop k)) := Lib.hid (HRES.out.trans ((if_neg HND.out).trans (if_neg h16)))
      go_enter Tryz.func56, Tryz.ntmps56
      go_wp2_with fail
      rw [← hw1]
      (with_reducible refine HAH.out.mono ?_)
      rintro e w2 ⟨rfl, hg2⟩
      obtain ⟨w3, hw3⟩ : ∃ W, W = w2.alloc (.cells #[.bool false, .slice none 0 0, .slice none 0 0, .int .i64 p3] 45) := ⟨_, rfl⟩
      have g3 : w2.grownBy w3 none := by rw [hw3]; exact World.grownBy_alloc _ _ none
      have hv3 : Blk w3 w2.heap.size 45 [.bool false, .slice none 0 0, .slice none 0 0, .int .i64 p3] := by rw [hw3]; exact blkNew w2 _ _
      have HS3 := Lib.hid (HSA.out w3 ((HR1.out.keep hg2).keep g3))
      have HW3 := Lib.hid hw3
      have HI3 : Hid (RuI w w3 rb tb o c ts w2.heap.size k nr 0 false none 0 0 none 0 0 p3 [] []) := Lib.hid ⟨hv3, (HZ1.out.grownN hg2).grownN g3, (HR1.out.keep hg2).keep g3, (Keep.toRow HG1.out).trans ((Keep.toRow hg2).trans (Keep.toRow g3)), ⟨none, 0, rfl, by simp, fun h => absurd rfl h⟩, ⟨none, 0, rfl, by simp, fun h => absurd rfl h⟩, he, by have := HS1.out; have := hg2.size; omega, HLT.out, HTL.out, HML.out⟩
      clear hg2 g3 hv3 hw3
      go_wp2_with fail
      rw [← HW3.out]
      (with_reducible refine HS3.out.mono ?_)
      rintro e w4 ⟨rfl, hg4⟩
      have HI4 := Lib.hid (HI3.out.keep (Keep.toRow hg4) (HI3.out.rdr.keep hg4) he)
      obtain ⟨c0, c1, c2, c3⟩ := cells4 HI4.out.blk
      obtain ⟨f0, f1, f2, f3⟩ := frozen4 HI4.out.blk
      have l4 := HI4.out.blk.lt
      have l5 := HI4.out.rdr.blk.lt
      have l7 : rb < w2.heap.size := by have := HI4.out.gt; have := HLT.out; omega
      clear hg4 HI3 HS3
      have HIB := Lib.hid (HI4.out.put (i := 0) (x := .bool true) (d' := true) (A' := none) (n' := 0) (cc' := 0) (B' := none) (m' := 0) (cd' := 0) (sc' := []) (wh' := []) rfl HI4.out.scop HI4.out.when_)
      have HB := Lib.hid (begin_yes HIB.out.rdr hk (by omega) (by omega))
      go_wp2_with fail
      (with_reducible refine HB.out.mono ?_)
      rintro e w5 ⟨rfl, hg5, hr5⟩
      have HI5 := Lib.hid (HIB.out.keep hg5 hr5 he1)
      clear hg5 hr5 HB HIB HI4
      obtain ⟨dn, hdn⟩ : ∃ d, d = true := ⟨_, rfl⟩
      rw [← hdn] at HI5
      have HDN : Hid (isT (ts.drop k) 1 wDeny = dn) := Lib.hid (by rw [hdn]; exact HDE.out)
      clear hdn
      clear c0 c1 c2 c3 f0 f1 f2 f3 l4 l5
      obtain ⟨c0, c1, c2, c3⟩ := cells4 HI5.out.blk
      obtain ⟨f0, f1, f2, f3⟩ := frozen4 HI5.out.blk
      have l4 := HI5.out.blk.lt
      have l5 := HI5.out.rdr.blk.lt
      by_cases hsc : isT (ts.drop (k + 1)) 1 wScope = true
      · have HG := Lib.hid (polGoes_yes (s := wScope) HI5.out.rdr (hd_at hk1) ((HSG.out (k + 1) wScope (by decide) (by decide)).2 hsc) (by omega))
        have he2 := he1.next hsc (by decide)
        rw [drop_one] at he2
        have HL := Lib.hid (fun W hr => listedS_any ho hz hsz (w := W) (rb := rb) (tb := tb) (o := o) (c := c) (nr := nr + 1) (dp := 0) (k := k + 2) hr he2)
        have HSP0 := Lib.hid (scopes_is (ts.drop (k + 1)) hsc he1)
        rw [drop_one] at HSP0
        obtain ⟨q, hq⟩ : ∃ q, q = listS (ts.drop (k + 2)) := ⟨_, rfl⟩
        rw [← hq] at HL HSP0
        clear c0 c1 c2 c3 f0 f1 f2 f3 l4 l5 hsc hq
        go_wp2_with fail
        (with_reducible refine HG.out.mono ?_)
        rintro e w6 ⟨rfl, hg6, hr6⟩
        have HI6 := Lib.hid (HI5.out.keep hg6 hr6 he2)
        have HL6 := Lib.hid (HL.out w6 hr6)
        clear hg6 hr6
        go_wp2_with fail
        (with_reducible refine HL6.out.mono ?_)
        rintro e w7 (⟨h0, k7, A, cc, rfl, hr7, he7, hrep, hcn, hrd, hg7⟩ | ⟨h0, hG⟩)
        · have HSP : Hid (scopesP (ts.drop (k + 1)) = (q.1, ts.drop k7, 0)) := Lib.hid (by rw [HSP0.out, if_neg (by simpa using h0), ← hr7]; exact congrArg (Prod.mk q.1) (Prod.ext rfl h0))
          have HI7 := Lib.hid (HI6.out.keep hg7 hrd he7)
          obtain ⟨n, hn⟩ : ∃ n, n = q.1.length := ⟨_, rfl⟩
          rw [← hn] at hrep ⊢
          have HI8 := Lib.hid (HI7.out.put (i := 1) (x := .slice A n cc) (d' := dn) (A' := A) (n' := n) (cc' := cc) (B' := none) (m' := 0) (cd' := 0) (sc' := q.1) (wh' := []) rfl (hrep.keeps (Keeps.refl _ _) (fun b (hb : w6.heap.size ≤ b) _ => by have := HI6.out.blk.lt; have := HI6.out.gt; exact ⟨by omega, by omega⟩)) HI7.out.when_)
          obtain ⟨c0, c1, c2, c3⟩ := cells4 HI7.out.blk
          obtain ⟨f0, f1, f2, f3⟩ := frozen4 HI7.out.blk
          have l4 := HI7.out.blk.lt
          have hk7 := ends_lt he7
          obtain ⟨sc, hscq⟩ : ∃ s, s = q.1 := ⟨_, rfl⟩
          rw [← hscq] at HSP HI8
          clear h0 hr7 hrep hcn hrd hg7 hn HSP0 HL HL6 HG HI5 HI6 HI7
          go_upto_region 10 with fail
          refine wp_gen (fun W8 hW8 => ?_)
          rw [← hW8] at HI8
          clear hW8 c0 c1 c2 c3 f0 f1 f2 f3 l4 hscq
          by_cases hwh : isT (ts.drop k7) 1 wWhen = true
          · have HG := Lib.hid (polGoes_yes (s := wWhen) HI8.out.rdr (hd_at hk7) ((HSG.out k7 wWhen (by decide) (by decide)).2 hwh) (by omega))
            have he8 := he7.next hwh (by decide)
            rw [drop_one] at he8
            have HE := Lib.hid (fun W hr => HEI.out W (k7 + 1) hr he8)
            have HWP0 : Hid (whenP (ts.drop k7) = if (orD 12 (ts.drop (k7 + 1))).2.2 ≠ 0 then ([], (orD 12 (ts.drop (k7 + 1))).2) else ([(orD 12 (ts.drop (k7 + 1))).1], (orD 12 (ts.drop (k7 + 1))).2.1, 0)) := Lib.hid (by unfold whenP; rw [if_pos hwh, drop_one])
            obtain ⟨x, hx⟩ : ∃ x, x = orD 12 (ts.drop (k7 + 1)) := ⟨_, rfl⟩
            rw [← hx] at HE HWP0
            clear hwh hx
            go_wp2_with fail
            (with_reducible refine HG.out.mono ?_)
            rintro e w9 ⟨rfl, hg9, hr9⟩
            have HI9 := Lib.hid (HI8.out.keep hg9 hr9 he8)
            have HE9 := Lib.hid (HE.out w9 hr9)
            clear hg9 hr9
            go_wp2_with fail
            (with_reducible refine HE9.out.mono ?_)
            rintro e w10 hT
            by_cases h0 : x.2.2 = 0
            · obtain ⟨k10, d0, d1, d2, D, dm, dc, d4, rfl, hr10, he10, hrep, hrd, hg10⟩ := hT.ok h0
              have HWP : Hid (whenP (ts.drop k7) = ([x.1], ts.drop k10, 0)) := Lib.hid (by rw [HWP0.out, if_neg (by simpa using h0), hr10])
              have HI10 := Lib.hid (HI9.out.keep hg10 hrd he10)
              obtain ⟨c0, c1, c2, c3⟩ := cells4 HI10.out.blk
              obtain ⟨f0, f1, f2, f3⟩ := frozen4 HI10.out.blk
              have l4 := HI10.out.blk.lt
              have hk10 := ends_lt he10
              have HP10 := Lib.hid (RepE.keeps (T := fun b => w.heap.size < b ∧ b ≠ w2.heap.size) (Keeps.refl _ _) (fun b (hb : w9.heap.size ≤ b) _ => by have := HI9.out.blk.lt; have := HI9.out.gt; exact ⟨by omega, by omega⟩) _ _ hrep)
              clear hT h0 hr10 hrep hrd hg10 HWP0 HE HE9 HG HI8 HI9
              go_upto_region 12 with fail
              refine wp_gen (fun W8 hW8 => ?_)
              have HI11 : Hid (RuI w W8 rb tb o c ts w2.heap.size k10 (nr + 1) 0 dn A n cc (some ⟨w10.heap.size, 0, none⟩) 1 1 p3 sc [x.1]) := Lib.hid (by
                have ga := World.grownBy_alloc w10 (.cells #[.int .i64 d0, .string d1, .int .i64 d2, .slice D dm dc, .int .i64 d4] 42) none
                have hnew := blkNew w10 [.int .i64 d0, .string d1, .int .i64 d2, .slice D dm dc, .int .i64 d4] 42
                have hI := HI10.out.keep (Keep.toRow ga) (HI10.out.rdr.keep ga) he10
                have b1 := HI10.out.gt
                have b2 := HI10.out.blk.lt
                have hI2 := hI.put (i := 2) (x := .slice (some ⟨w10.heap.size, 0, none⟩) 1 1) (d' := dn) (A' := A) (n' := n) (cc' := cc) (B' := some ⟨w10.heap.size, 0, none⟩) (m' := 1) (cd' := 1) (sc' := sc) (wh' := [x.1]) rfl hI.scop ⟨_, 1, rfl, by simp, fun _ => ⟨w10.heap.size, 0, rfl, ⟨by omega, by omega⟩, hnew.lt, by
                  rw [RepEs, RepEs]
                  exact ⟨⟨_, RepE.keeps (Keeps.grown ga (fun b _ e => by cases e)) (fun b hb _ => hb) _ _ HP10.out, _, _, _, _, _, rfl, hnew.cell 0, hnew.cell 1, hnew.cell 2, hnew.cell 3, hnew.cell 4⟩, trivial⟩⟩⟩
                first
                  | (rw [hW8]; exact hI2)
                  | (have hcm : ∀ v, (w10.setCell ⟨w2.heap.size, 2, none⟩ v).alloc (.cells #[.int .i64 d0, .string d1, .int .i64 d2, .slice D dm dc, .int .i64 d4] 42) = (w10.alloc (.cells #[.int .i64 d0, .string d1, .int .i64 d2, .slice D dm dc, .int .i64 d4] 42)).setCell ⟨w2.heap.size, 2, none⟩ v := fun v => (World.setCell_alloc_past _ _ _ _ b2).symm
                     rw [hW8, hcm]; exact hI2))
              obtain ⟨wh, hwhq⟩ : ∃ s, s = [x.1] := ⟨_, rfl⟩
              obtain ⟨B, hB⟩ : ∃ A : Option Addr, A = some ⟨w10.heap.size, 0, none⟩ := ⟨_, rfl⟩
              obtain ⟨m, hm⟩ : ∃ n, n = 1 := ⟨_, rfl⟩
              obtain ⟨cd, hcd⟩ : ∃ n, n = 1 := ⟨_, rfl⟩
              rw [← hwhq] at HI11 HWP
              rw [← hB] at HI11
              replace HI11 : Hid (RuI w W8 rb tb o c ts w2.heap.size k10 (nr + 1) 0 dn A n cc B m cd p3 sc wh) := Lib.hid (by rw [hm, hcd]; exact HI11.out)
              clear hW8 c0 c1 c2 c3 f0 f1 f2 f3 l4 hwhq hB hm hcd HI10 HP10
              by_cases hse : isT (ts.drop k10) 4 kSemi = true
              · have HG := Lib.hid (polMust_yes (s := kSemi) HI11.out.rdr (hd_at hk10) ((HSS.out k10).2 hse) (by omega))
                have he12 := he10.next hse (by decide)
                rw [drop_one] at he12
                have HRS : Hid (res = (⟨dn, sc, wh, p3⟩, ts.drop (k10 + 1), 0)) := Lib.hid (by
                  rw [HRU.out]; unfold ruleP
                  rw [if_neg HND.out, drop_one, HSP.out, if_neg (show ¬ (0 : Int) ≠ 0 by decide)]
                  simp only
                  rw [HWP.out, if_neg (show ¬ (0 : Int) ≠ 0 by decide)]
                  simp only
                  rw [if_neg (by rw [hse]; decide), drop_one, HDN.out, HPP.out])
                clear hse
                go_wp2_with fail
                (with_reducible refine HG.out.mono ?_)
                rintro e w12 ⟨rfl, hg12, hr12⟩
                have HI12 := Lib.hid (HI11.out.keep hg12 hr12 he12)
                clear hg12 hr12
                obtain ⟨c0, c1, c2, c3⟩ := cells4 HI12.out.blk
                obtain ⟨z0, z1, z2, z3⟩ := cells4 HI12.out.zero
                obtain ⟨f0, f1, f2, f3⟩ := frozen4 HI12.out.zero
                have HSET := Lib.hid (blk_setR HI12.out.zero (.bool dn) (.slice A n cc) (.slice B m cd) (.int .i64 p3))
                have l12 := HI12.out.zero.lt
                go_wp2
                refine bodyPost_ret (results_blkE Tryz.results56 _ _ w.heap.size _ _ _ rfl HSET.out.1 Tryz.underlying45 rfl sizeRule) rfl ?_
                rw [HRS.out]
                have b1 := HI12.out.lt
                have b2 := HI12.out.tl
                have b3 := HI12.out.ml
                have b4 := HI12.out.gt
                exact .inl ⟨rfl, k10 + 1, dn, A, n, cc, B, m, cd, p3, rfl, rfl, HI12.out.ends, ⟨_, _, rfl, HI12.out.scop.keeps (Keeps.grown HSET.out.2 (fun b (hb : _ ∧ _) e => by injection e with e; omega)) (fun b hb _ => by have := hb.1; show w.heap.size ≤ b; omega), RepL.keeps (Keeps.grown HSET.out.2 (fun b (hb : _ ∧ _) e => by injection e with e; omega)) (fun b hb _ => by have := hb.1; show w.heap.size ≤ b; omega) HI12.out.when_⟩, HI12.out.rdr.other HSET.out.2 (by omega) (by omega) (by omega), HI12.out.grown.andThen HSET.out.2 (by intro j hj; injection hj with hj; left; omega)⟩
              · have HG := Lib.hid (polMust_no (s := kSemi) HI11.out.rdr (hd_at hk10) (fun e => hse ((HSS.out k10).1 e)))
                have HRS : Hid (res = (rule0, ts.drop k10, 120)) := Lib.hid (by
                  rw [HRU.out]; unfold ruleP
                  rw [if_neg HND.out, drop_one, HSP.out, if_neg (show ¬ (0 : Int) ≠ 0 by decide)]
                  simp only
                  rw [HWP.out, if_neg (show ¬ (0 : Int) ≠ 0 by decide)]
                  simp only
                  rw [if_pos (by simpa using hse)])
                clear hse
                go_wp2_with fail
                (with_reducible refine HG.out.mono ?_)
                rintro e w12 hG
                have HF := Lib.hid (hG.from HI11.out.grown)
                obtain ⟨b, rfl, _⟩ := hG
                go_wp2
                refine ⟨rfl, ?_⟩
                rw [HRS.out]
                exact .inr ⟨(by show (120 : Int) ≠ 0; decide), HF.out⟩
            · have HRS : Hid (res = (rule0, x.2)) := Lib.hid (by rw [HRU.out]; unfold ruleP; rw [if_neg HND.out, drop_one, HSP.out, if_neg (show ¬ (0 : Int) ≠ 0 by decide)]; rw [HWP0.out, if_pos h0, if_pos h0])
              have HF := Lib.hid ((hT.bad h0).from HI9.out.grown)
              obtain ⟨b, rfl, _⟩ := hT.bad h0
              clear hT
              go_wp2
              refine ⟨rfl, ?_⟩
              rw [HRS.out]
              exact .inr ⟨h0, HF.out⟩
          · have HG := Lib.hid (polGoes_no (s := wWhen) HI8.out.rdr (hd_at hk7) (fun e => hwh ((HSG.out k7 wWhen (by decide) (by decide)).1 e)))
            have HWP0 : Hid (whenP (ts.drop k7) = ([], ts.drop k7, 0)) := Lib.hid (by unfold whenP; rw [if_neg hwh])
            clear hwh
            go_wp2_with fail
            (with_reducible refine HG.out.mono ?_)
            rintro e W8 ⟨rfl, hg9⟩
            have HI9 := Lib.hid (HI8.out.keep (Keep.toRow hg9) (HI8.out.rdr.keep hg9) he7)
            clear hg9 HG HI8
            go_upto_region 12 with fail
            obtain ⟨wh, hwhq⟩ : ∃ s : List Ex, s = [] := ⟨_, rfl⟩
            obtain ⟨B, hB⟩ : ∃ A : Option Addr, A = none := ⟨_, rfl⟩
            obtain ⟨m, hm⟩ : ∃ n, n = 0 := ⟨_, rfl⟩
            obtain ⟨cd, hcd⟩ : ∃ n, n = 0 := ⟨_, rfl⟩
            obtain ⟨k10, hk10e⟩ : ∃ x, x = k7 := ⟨_, rfl⟩
            have he10 : Ends (ts.drop k10) := by rw [hk10e]; exact he7
            have hk10 := ends_lt he10
            have HI11 : Hid (RuI w W8 rb tb o c ts w2.heap.size k10 (nr + 1) 0 dn A n cc B m cd p3 sc wh) := Lib.hid (by rw [hm, hcd, hB, hwhq, hk10e]; exact HI9.out)
            have HWP : Hid (whenP (ts.drop k7) = (wh, ts.drop k10, 0)) := Lib.hid (by rw [hwhq, hk10e]; exact HWP0.out)
            clear hwhq hB hm hcd hk10e HI9 HWP0
            by_cases hse : isT (ts.drop k10) 4 kSemi = true
            · have HG := Lib.hid (polMust_yes (s := kSemi) HI11.out.rdr (hd_at hk10) ((HSS.out k10).2 hse) (by omega))
              have he12 := he10.next hse (by decide)
              rw [drop_one] at he12
              have HRS : Hid (res = (⟨dn, sc, wh, p3⟩, ts.drop (k10 + 1), 0)) := Lib.hid (by
                rw [HRU.out]; unfold ruleP
                rw [if_neg HND.out, drop_one, HSP.out, if_neg (show ¬ (0 : Int) ≠ 0 by decide)]
                simp only
                rw [HWP.out, if_neg (show ¬ (0 : Int) ≠ 0 by decide)]
                simp only
                rw [if_neg (by rw [hse]; decide), drop_one, HDN.out, HPP.out])
              clear hse
              go_wp2_with fail
              (with_reducible refine HG.out.mono ?_)
              rintro e w12 ⟨rfl, hg12, hr12⟩
              have HI12 := Lib.hid (HI11.out.keep hg12 hr12 he12)
              clear hg12 hr12
              obtain ⟨c0, c1, c2, c3⟩ := cells4 HI12.out.blk
              obtain ⟨z0, z1, z2, z3⟩ := cells4 HI12.out.zero
              obtain ⟨f0, f1, f2, f3⟩ := frozen4 HI12.out.zero
              have HSET := Lib.hid (blk_setR HI12.out.zero (.bool dn) (.slice A n cc) (.slice B m cd) (.int .i64 p3))
              have l12 := HI12.out.zero.lt
              go_wp2
              refine bodyPost_ret (results_blkE Tryz.results56 _ _ w.heap.size _ _ _ rfl HSET.out.1 Tryz.underlying45 rfl sizeRule) rfl ?_
              rw [HRS.out]
              have b1 := HI12.out.lt
              have b2 := HI12.out.tl
              have b3 := HI12.out.ml
              have b4 := HI12.out.gt
              exact .inl ⟨rfl, k10 + 1, dn, A, n, cc, B, m, cd, p3, rfl, rfl, HI12.out.ends, ⟨_, _, rfl, HI12.out.scop.keeps (Keeps.grown HSET.out.2 (fun b (hb : _ ∧ _) e => by injection e with e; omega)) (fun b hb _ => by have := hb.1; show w.heap.size ≤ b; omega), RepL.keeps (Keeps.grown HSET.out.2 (fun b (hb : _ ∧ _) e => by injection e with e; omega)) (fun b hb _ => by have := hb.1; show w.heap.size ≤ b; omega) HI12.out.when_⟩, HI12.out.rdr.other HSET.out.2 (by omega) (by omega) (by omega), HI12.out.grown.andThen HSET.out.2 (by intro j hj; injection hj with hj; left; omega)⟩
            · have HG := Lib.hid (polMust_no (s := kSemi) HI11.out.rdr (hd_at hk10) (fun e => hse ((HSS.out k10).1 e)))
              have HRS : Hid (res = (rule0, ts.drop k10, 120)) := Lib.hid (by
                rw [HRU.out]; unfold ruleP
                rw [if_neg HND.out, drop_one, HSP.out, if_neg (show ¬ (0 : Int) ≠ 0 by decide)]
                simp only
                rw [HWP.out, if_neg (show ¬ (0 : Int) ≠ 0 by decide)]
                simp only
                rw [if_pos (by simpa using hse)])
              clear hse
              go_wp2_with fail
              (with_reducible refine HG.out.mono ?_)
              rintro e w12 hG
              have HF := Lib.hid (hG.from HI11.out.grown)
              obtain ⟨b, rfl, _⟩ := hG
              go_wp2
              refine ⟨rfl, ?_⟩
              rw [HRS.out]
              exact .inr ⟨(by show (120 : Int) ≠ 0; decide), HF.out⟩
        · have HRS : Hid (res = (rule0, q.2)) := Lib.hid (by rw [HRU.out]; unfold ruleP; rw [if_neg HND.out, drop_one, HSP0.out, if_pos h0]; rw [if_pos h0])
          have HF := Lib.hid (hG.from HI6.out.grown)
          obtain ⟨b, rfl, _⟩ := hG
          go_wp2
          refine ⟨rfl, ?_⟩
          rw [HRS.out]
          exact .inr ⟨h0, HF.out⟩
      · have HG := Lib.hid (polGoes_no (s := wScope) HI5.out.rdr (hd_at hk1) (fun e => hsc ((HSG.out (k + 1) wScope (by decide) (by decide)).1 e)))
        have HSP : Hid (scopesP (ts.drop (k + 1)) = ([], ts.drop (k + 1), 0)) := Lib.hid (if_neg hsc)
        clear c0 c1 c2 c3 f0 f1 f2 f3 l4 l5 hsc
        go_wp2_with fail
        (with_reducible refine HG.out.mono ?_)
        rintro e w6 ⟨rfl, hg6⟩
        have HI8 := Lib.hid (HI5.out.keep (Keep.toRow hg6) (HI5.out.rdr.keep hg6) he1)
        clear hg6 HG HI5
        go_upto_region 10 with fail
        refine wp_gen (fun W8 hW8 => ?_)
        subst hW8
        obtain ⟨A, hA⟩ : ∃ A : Option Addr, A = none := ⟨_, rfl⟩
        obtain ⟨n, hn⟩ : ∃ n, n = 0 := ⟨_, rfl⟩
        obtain ⟨cc, hcc⟩ : ∃ n, n = 0 := ⟨_, rfl⟩
        obtain ⟨sc, hscq⟩ : ∃ s : List ByteArray, s = [] := ⟨_, rfl⟩
        obtain ⟨k7, hk7e⟩ : ∃ x, x = k + 1 := ⟨_, rfl⟩
        rw [← hscq, ← hk7e] at HSP
        have he7 : Ends (ts.drop k7) := by rw [hk7e]; exact he1
        have hk7 := ends_lt he7
        replace HI8 : Hid (RuI w W8 rb tb o c ts w2.heap.size k7 (nr + 1) 0 dn A n cc none 0 0 p3 sc []) := Lib.hid (by rw [hn, hcc, hA, hscq, hk7e]; exact HI8.out)
        rw [hk7e] at HSP
        replace HSP : Hid (scopesP (ts.drop (k + 1)) = (sc, ts.drop k7, 0)) := Lib.hid (by rw [hk7e]; exact HSP.out)
        clear hA hn hcc hscq hk7e
        by_cases hwh : isT (ts.drop k7) 1 wWhen = true
        · have HG := Lib.hid (polGoes_yes (s := wWhen) HI8.out.rdr (hd_at hk7) ((HSG.out k7 wWhen (by decide) (by decide)).2 hwh) (by omega))
          have he8 := he7.next hwh (by decide)
          rw [drop_one] at he8
          have HE := Lib.hid (fun W hr => HEI.out W (k7 + 1) hr he8)
          have HWP0 : Hid (whenP (ts.drop k7) = if (orD 12 (ts.drop (k7 + 1))).2.2 ≠ 0 then ([], (orD 12 (ts.drop (k7 + 1))).2) else ([(orD 12 (ts.drop (k7 + 1))).1], (orD 12 (ts.drop (k7 + 1))).2.1, 0)) := Lib.hid (by unfold whenP; rw [if_pos hwh, drop_one])
          obtain ⟨x, hx⟩ : ∃ x, x = orD 12 (ts.drop (k7 + 1)) := ⟨_, rfl⟩
          rw [← hx] at HE HWP0
          clear hwh hx
          go_wp2_with fail
          (with_reducible refine HG.out.mono ?_)
          rintro e w9 ⟨rfl, hg9, hr9⟩
          have HI9 := Lib.hid (HI8.out.keep hg9 hr9 he8)
          have HE9 := Lib.hid (HE.out w9 hr9)
          clear hg9 hr9
          go_wp2_with fail
          (with_reducible refine HE9.out.mono ?_)
          rintro e w10 hT
          by_cases h0 : x.2.2 = 0
          · obtain ⟨k10, d0, d1, d2, D, dm, dc, d4, rfl, hr10, he10, hrep, hrd, hg10⟩ := hT.ok h0
            have HWP : Hid (whenP (ts.drop k7) = ([x.1], ts.drop k10, 0)) := Lib.hid (by rw [HWP0.out, if_neg (by simpa using h0), hr10])
            have HI10 := Lib.hid (HI9.out.keep hg10 hrd he10)
            obtain ⟨c0, c1, c2, c3⟩ := cells4 HI10.out.blk
            obtain ⟨f0, f1, f2, f3⟩ := frozen4 HI10.out.blk
            have l4 := HI10.out.blk.lt
            have hk10 := ends_lt he10
            have HP10 := Lib.hid (RepE.keeps (T := fun b => w.heap.size < b ∧ b ≠ w2.heap.size) (Keeps.refl _ _) (fun b (hb : w9.heap.size ≤ b) _ => by have := HI9.out.blk.lt; have := HI9.out.gt; exact ⟨by omega, by omega⟩) _ _ hrep)
            clear hT h0 hr10 hrep hrd hg10 HWP0 HE HE9 HG HI8 HI9
            go_upto_region 12 with fail
            refine wp_gen (fun W8 hW8 => ?_)
            have HI11 : Hid (RuI w W8 rb tb o c ts w2.heap.size k10 (nr + 1) 0 dn A n cc (some ⟨w10.heap.size, 0, none⟩) 1 1 p3 sc [x.1]) := Lib.hid (by
              have ga := World.grownBy_alloc w10 (.cells #[.int .i64 d0, .string d1, .int .i64 d2, .slice D dm dc, .int .i64 d4] 42) none
              have hnew := blkNew w10 [.int .i64 d0, .string d1, .int .i64 d2, .slice D dm dc, .int .i64 d4] 42
              have hI := HI10.out.keep (Keep.toRow ga) (HI10.out.rdr.keep ga) he10
              have b1 := HI10.out.gt
              have b2 := HI10.out.blk.lt
              have hI2 := hI.put (i := 2) (x := .slice (some ⟨w10.heap.size, 0, none⟩) 1 1) (d' := dn) (A' := A) (n' := n) (cc' := cc) (B' := some ⟨w10.heap.size, 0, none⟩) (m' := 1) (cd' := 1) (sc' := sc) (wh' := [x.1]) rfl hI.scop ⟨_, 1, rfl, by simp, fun _ => ⟨w10.heap.size, 0, rfl, ⟨by omega, by omega⟩, hnew.lt, by
                rw [RepEs, RepEs]
                exact ⟨⟨_, RepE.keeps (Keeps.grown ga (fun b _ e => by cases e)) (fun b hb _ => hb) _ _ HP10.out, _, _, _, _, _, rfl, hnew.cell 0, hnew.cell 1, hnew.cell 2, hnew.cell 3, hnew.cell 4⟩, trivial⟩⟩⟩
              first
                | (rw [hW8]; exact hI2)
                | (have hcm : ∀ v, (w10.setCell ⟨w2.heap.size, 2, none⟩ v).alloc (.cells #[.int .i64 d0, .string d1, .int .i64 d2, .slice D dm dc, .int .i64 d4] 42) = (w10.alloc (.cells #[.int .i64 d0, .string d1, .int .i64 d2, .slice D dm dc, .int .i64 d4] 42)).setCell ⟨w2.heap.size, 2, none⟩ v := fun v => (World.setCell_alloc_past _ _ _ _ b2).symm
                   rw [hW8, hcm]; exact hI2))
            obtain ⟨wh, hwhq⟩ : ∃ s, s = [x.1] := ⟨_, rfl⟩
            obtain ⟨B, hB⟩ : ∃ A : Option Addr, A = some ⟨w10.heap.size, 0, none⟩ := ⟨_, rfl⟩
            obtain ⟨m, hm⟩ : ∃ n, n = 1 := ⟨_, rfl⟩
            obtain ⟨cd, hcd⟩ : ∃ n, n = 1 := ⟨_, rfl⟩
            rw [← hwhq] at HI11 HWP
            rw [← hB] at HI11
            replace HI11 : Hid (RuI w W8 rb tb o c ts w2.heap.size k10 (nr + 1) 0 dn A n cc B m cd p3 sc wh) := Lib.hid (by rw [hm, hcd]; exact HI11.out)
            clear hW8 c0 c1 c2 c3 f0 f1 f2 f3 l4 hwhq hB hm hcd HI10 HP10
            by_cases hse : isT (ts.drop k10) 4 kSemi = true
            · have HG := Lib.hid (polMust_yes (s := kSemi) HI11.out.rdr (hd_at hk10) ((HSS.out k10).2 hse) (by omega))
              have he12 := he10.next hse (by decide)
              rw [drop_one] at he12
              have HRS : Hid (res = (⟨dn, sc, wh, p3⟩, ts.drop (k10 + 1), 0)) := Lib.hid (by
                rw [HRU.out]; unfold ruleP
                rw [if_neg HND.out, drop_one, HSP.out, if_neg (show ¬ (0 : Int) ≠ 0 by decide)]
                simp only
                rw [HWP.out, if_neg (show ¬ (0 : Int) ≠ 0 by decide)]
                simp only
                rw [if_neg (by rw [hse]; decide), drop_one, HDN.out, HPP.out])
              clear hse
              go_wp2_with fail
              (with_reducible refine HG.out.mono ?_)
              rintro e w12 ⟨rfl, hg12, hr12⟩
              have HI12 := Lib.hid (HI11.out.keep hg12 hr12 he12)
              clear hg12 hr12
              obtain ⟨c0, c1, c2, c3⟩ := cells4 HI12.out.blk
              obtain ⟨z0, z1, z2, z3⟩ := cells4 HI12.out.zero
              obtain ⟨f0, f1, f2, f3⟩ := frozen4 HI12.out.zero
              have HSET := Lib.hid (blk_setR HI12.out.zero (.bool dn) (.slice A n cc) (.slice B m cd) (.int .i64 p3))
              have l12 := HI12.out.zero.lt
              go_wp2
              refine bodyPost_ret (results_blkE Tryz.results56 _ _ w.heap.size _ _ _ rfl HSET.out.1 Tryz.underlying45 rfl sizeRule) rfl ?_
              rw [HRS.out]
              have b1 := HI12.out.lt
              have b2 := HI12.out.tl
              have b3 := HI12.out.ml
              have b4 := HI12.out.gt
              exact .inl ⟨rfl, k10 + 1, dn, A, n, cc, B, m, cd, p3, rfl, rfl, HI12.out.ends, ⟨_, _, rfl, HI12.out.scop.keeps (Keeps.grown HSET.out.2 (fun b (hb : _ ∧ _) e => by injection e with e; omega)) (fun b hb _ => by have := hb.1; show w.heap.size ≤ b; omega), RepL.keeps (Keeps.grown HSET.out.2 (fun b (hb : _ ∧ _) e => by injection e with e; omega)) (fun b hb _ => by have := hb.1; show w.heap.size ≤ b; omega) HI12.out.when_⟩, HI12.out.rdr.other HSET.out.2 (by omega) (by omega) (by omega), HI12.out.grown.andThen HSET.out.2 (by intro j hj; injection hj with hj; left; omega)⟩
            · have HG := Lib.hid (polMust_no (s := kSemi) HI11.out.rdr (hd_at hk10) (fun e => hse ((HSS.out k10).1 e)))
              have HRS : Hid (res = (rule0, ts.drop k10, 120)) := Lib.hid (by
                rw [HRU.out]; unfold ruleP
                rw [if_neg HND.out, drop_one, HSP.out, if_neg (show ¬ (0 : Int) ≠ 0 by decide)]
                simp only
                rw [HWP.out, if_neg (show ¬ (0 : Int) ≠ 0 by decide)]
                simp only
                rw [if_pos (by simpa using hse)])
              clear hse
              go_wp2_with fail
              (with_reducible refine HG.out.mono ?_)
              rintro e w12 hG
              have HF := Lib.hid (hG.from HI11.out.grown)
              obtain ⟨b, rfl, _⟩ := hG
              go_wp2
              refine ⟨rfl, ?_⟩
              rw [HRS.out]
              exact .inr ⟨(by show (120 : Int) ≠ 0; decide), HF.out⟩
          · have HRS : Hid (res = (rule0, x.2)) := Lib.hid (by rw [HRU.out]; unfold ruleP; rw [if_neg HND.out, drop_one, HSP.out, if_neg (show ¬ (0 : Int) ≠ 0 by decide)]; rw [HWP0.out, if_pos h0, if_pos h0])
            have HF := Lib.hid ((hT.bad h0).from HI9.out.grown)
            obtain ⟨b, rfl, _⟩ := hT.bad h0
            clear hT
            go_wp2
            refine ⟨rfl, ?_⟩
            rw [HRS.out]
            exact .inr ⟨h0, HF.out⟩
        · have HG := Lib.hid (polGoes_no (s := wWhen) HI8.out.rdr (hd_at hk7) (fun e => hwh ((HSG.out k7 wWhen (by decide) (by decide)).1 e)))
          have HWP0 : Hid (whenP (ts.drop k7) = ([], ts.drop k7, 0)) := Lib.hid (by unfold whenP; rw [if_neg hwh])
          clear hwh
          go_wp2_with fail
          (with_reducible refine HG.out.mono ?_)
          rintro e W8 ⟨rfl, hg9⟩
          have HI9 := Lib.hid (HI8.out.keep (Keep.toRow hg9) (HI8.out.rdr.keep hg9) he7)
          clear hg9 HG HI8
          go_upto_region 12 with fail
          obtain ⟨wh, hwhq⟩ : ∃ s : List Ex, s = [] := ⟨_, rfl⟩
          obtain ⟨B, hB⟩ : ∃ A : Option Addr, A = none := ⟨_, rfl⟩
          obtain ⟨m, hm⟩ : ∃ n, n = 0 := ⟨_, rfl⟩
          obtain ⟨cd, hcd⟩ : ∃ n, n = 0 := ⟨_, rfl⟩
          obtain ⟨k10, hk10e⟩ : ∃ x, x = k7 := ⟨_, rfl⟩
          have he10 : Ends (ts.drop k10) := by rw [hk10e]; exact he7
          have hk10 := ends_lt he10
          have HI11 : Hid (RuI w W8 rb tb o c ts w2.heap.size k10 (nr + 1) 0 dn A n cc B m cd p3 sc wh) := Lib.hid (by rw [hm, hcd, hB, hwhq, hk10e]; exact HI9.out)
          have HWP : Hid (whenP (ts.drop k7) = (wh, ts.drop k10, 0)) := Lib.hid (by rw [hwhq, hk10e]; exact HWP0.out)
          clear hwhq hB hm hcd hk10e HI9 HWP0
          by_cases hse : isT (ts.drop k10) 4 kSemi = true
          · have HG := Lib.hid (polMust_yes (s := kSemi) HI11.out.rdr (hd_at hk10) ((HSS.out k10).2 hse) (by omega))
            have he12 := he10.next hse (by decide)
            rw [drop_one] at he12
            have HRS : Hid (res = (⟨dn, sc, wh, p3⟩, ts.drop (k10 + 1), 0)) := Lib.hid (by
              rw [HRU.out]; unfold ruleP
              rw [if_neg HND.out, drop_one, HSP.out, if_neg (show ¬ (0 : Int) ≠ 0 by decide)]
              simp only
              rw [HWP.out, if_neg (show ¬ (0 : Int) ≠ 0 by decide)]
              simp only
              rw [if_neg (by rw [hse]; decide), drop_one, HDN.out, HPP.out])
            clear hse
            go_wp2_with fail
            (with_reducible refine HG.out.mono ?_)
            rintro e w12 ⟨rfl, hg12, hr12⟩
            have HI12 := Lib.hid (HI11.out.keep hg12 hr12 he12)
            clear hg12 hr12
            obtain ⟨c0, c1, c2, c3⟩ := cells4 HI12.out.blk
            obtain ⟨z0, z1, z2, z3⟩ := cells4 HI12.out.zero
            obtain ⟨f0, f1, f2, f3⟩ := frozen4 HI12.out.zero
            have HSET := Lib.hid (blk_setR HI12.out.zero (.bool dn) (.slice A n cc) (.slice B m cd) (.int .i64 p3))
            have l12 := HI12.out.zero.lt
            go_wp2
            refine bodyPost_ret (results_blkE Tryz.results56 _ _ w.heap.size _ _ _ rfl HSET.out.1 Tryz.underlying45 rfl sizeRule) rfl ?_
            rw [HRS.out]
            have b1 := HI12.out.lt
            have b2 := HI12.out.tl
            have b3 := HI12.out.ml
            have b4 := HI12.out.gt
            exact .inl ⟨rfl, k10 + 1, dn, A, n, cc, B, m, cd, p3, rfl, rfl, HI12.out.ends, ⟨_, _, rfl, HI12.out.scop.keeps (Keeps.grown HSET.out.2 (fun b (hb : _ ∧ _) e => by injection e with e; omega)) (fun b hb _ => by have := hb.1; show w.heap.size ≤ b; omega), RepL.keeps (Keeps.grown HSET.out.2 (fun b (hb : _ ∧ _) e => by injection e with e; omega)) (fun b hb _ => by have := hb.1; show w.heap.size ≤ b; omega) HI12.out.when_⟩, HI12.out.rdr.other HSET.out.2 (by omega) (by omega) (by omega), HI12.out.grown.andThen HSET.out.2 (by intro j hj; injection hj with hj; left; omega)⟩
          · have HG := Lib.hid (polMust_no (s := kSemi) HI11.out.rdr (hd_at hk10) (fun e => hse ((HSS.out k10).1 e)))
            have HRS : Hid (res = (rule0, ts.drop k10, 120)) := Lib.hid (by
              rw [HRU.out]; unfold ruleP
              rw [if_neg HND.out, drop_one, HSP.out, if_neg (show ¬ (0 : Int) ≠ 0 by decide)]
              simp only
              rw [HWP.out, if_neg (show ¬ (0 : Int) ≠ 0 by decide)]
              simp only
              rw [if_pos (by simpa using hse)])
            clear hse
            go_wp2_with fail
            (with_reducible refine HG.out.mono ?_)
            rintro e w12 hG
            have HF := Lib.hid (hG.from HI11.out.grown)
            obtain ⟨b, rfl, _⟩ := hG
            go_wp2
            refine ⟨rfl, ?_⟩
            rw [HRS.out]
            exact .inr ⟨(by show (120 : Int) ≠ 0; decide), HF.out⟩
  by_cases hp : isT (ts.drop k) 1 wPermit = true
  · have HND : Hid (¬ (isT (ts.drop k) 1 wDeny = false ∧ isT (ts.drop k) 1 wPermit = false)) := Lib.hid (fun h => by rw [hp] at h; cases h.2)
    have HDE : Hid (isT (ts.drop k) 1 wDeny = false) := Lib.hid (by simpa using hd)
    have he1 := HN1.out wPermit hp
    have hk1 := ends_lt he1
    obtain rfl := hsp.2 hp
    clear hsd hsp hd hp
    by_cases h16 : nr = 16
    · have HRS16 : Hid (res = (rule0, ts.drop k, 132)) := Lib.hid (HRES.out.trans ((if_neg HND.out).trans (if_pos h16)))
      go_enter Tryz.func56, Tryz.ntmps56
      go_wp2_with fail
      rw [← hw1]
      (with_reducible refine HAH.out.mono ?_)
      rintro e w2 ⟨rfl, hg2⟩
      obtain ⟨w3, hw3⟩ : ∃ W, W = w2.alloc (.cells #[.bool false, .slice none 0 0, .slice none 0 0, .int .i64 p3] 45) := ⟨_, rfl⟩
      have g3 : w2.grownBy w3 none := by rw [hw3]; exact World.grownBy_alloc _ _ none
      have hv3 : Blk w3 w2.heap.size 45 [.bool false, .slice none 0 0, .slice none 0 0, .int .i64 p3] := by rw [hw3]; exact blkNew w2 _ _
      have HS3 := Lib.hid (HSA.out w3 ((HR1.out.keep hg2).keep g3))
      have HW3 := Lib.hid hw3
      have HI3 : Hid (RuI w w3 rb tb o c ts w2.heap.size k nr 0 false none 0 0 none 0 0 p3 [] []) := Lib.hid ⟨hv3, (HZ1.out.grownN hg2).grownN g3, (HR1.out.keep hg2).keep g3, (Keep.toRow HG1.out).trans ((Keep.toRow hg2).trans (Keep.toRow g3)), ⟨none, 0, rfl, by simp, fun h => absurd rfl h⟩, ⟨none, 0, rfl, by simp, fun h => absurd rfl h⟩, he, by have := HS1.out; have := hg2.size; omega, HLT.out, HTL.out, HML.out⟩
      clear hg2 g3 hv3 hw3
      go_wp2_with fail
      rw [← HW3.out]
      (with_reducible refine HS3.out.mono ?_)
      rintro e w4 ⟨rfl, hg4⟩
      have HI4 := Lib.hid (HI3.out.keep (Keep.toRow hg4) (HI3.out.rdr.keep hg4) he)
      obtain ⟨c0, c1, c2, c3⟩ := cells4 HI4.out.blk
      obtain ⟨f0, f1, f2, f3⟩ := frozen4 HI4.out.blk
      have l4 := HI4.out.blk.lt
      have l5 := HI4.out.rdr.blk.lt
      have l7 : rb < w2.heap.size := by have := HI4.out.gt; have := HLT.out; omega
      clear hg4 HI3 HS3
      have HIB := HI4
      have HB := Lib.hid (begin_no HIB.out.rdr (hd_at hk) h16)
      go_wp2_with fail
      (with_reducible refine HB.out.mono ?_)
      rintro e w5 hG
      have HF := Lib.hid (hG.from HIB.out.grown)
      obtain ⟨b, rfl, _⟩ := hG
      go_wp2
      refine ⟨rfl, ?_⟩
      rw [HRS16.out]
      exact .inr ⟨(by show (132 : Int) ≠ 0; decide), HF.out⟩
    · have HRU : Hid (res = ruleP (ts.drop k)) := Lib.hid (HRES.out.trans ((if_neg HND.out).trans (if_neg h16)))
      go_enter Tryz.func56, Tryz.ntmps56
      go_wp2_with fail
      rw [← hw1]
      (with_reducible refine HAH.out.mono ?_)
      rintro e w2 ⟨rfl, hg2⟩
      obtain ⟨w3, hw3⟩ : ∃ W, W = w2.alloc (.cells #[.bool false, .slice none 0 0, .slice none 0 0, .int .i64 p3] 45) := ⟨_, rfl⟩
      have g3 : w2.grownBy w3 none := by rw [hw3]; exact World.grownBy_alloc _ _ none
      have hv3 : Blk w3 w2.heap.size 45 [.bool false, .slice none 0 0, .slice none 0 0, .int .i64 p3] := by rw [hw3]; exact blkNew w2 _ _
      have HS3 := Lib.hid (HSA.out w3 ((HR1.out.keep hg2).keep g3))
      have HW3 := Lib.hid hw3
      have HI3 : Hid (RuI w w3 rb tb o c ts w2.heap.size k nr 0 false none 0 0 none 0 0 p3 [] []) := Lib.hid ⟨hv3, (HZ1.out.grownN hg2).grownN g3, (HR1.out.keep hg2).keep g3, (Keep.toRow HG1.out).trans ((Keep.toRow hg2).trans (Keep.toRow g3)), ⟨none, 0, rfl, by simp, fun h => absurd rfl h⟩, ⟨none, 0, rfl, by simp, fun h => absurd rfl h⟩, he, by have := HS1.out; have := hg2.size; omega, HLT.out, HTL.out, HML.out⟩
      clear hg2 g3 hv3 hw3
      go_wp2_with fail
      rw [← HW3.out]
      (with_reducible refine HS3.out.mono ?_)
      rintro e w4 ⟨rfl, hg4⟩
      have HI4 := Lib.hid (HI3.out.keep (Keep.toRow hg4) (HI3.out.rdr.keep hg4) he)
      obtain ⟨c0, c1, c2, c3⟩ := cells4 HI4.out.blk
      obtain ⟨f0, f1, f2, f3⟩ := frozen4 HI4.out.blk
      have l4 := HI4.out.blk.lt
      have l5 := HI4.out.rdr.blk.lt
      have l7 : rb < w2.heap.size := by have := HI4.out.gt; have := HLT.out; omega
      clear hg4 HI3 HS3
      have HIB := HI4
      have HB := Lib.hid (begin_yes HIB.out.rdr hk (by omega) (by omega))
      go_wp2_with fail
      (with_reducible refine HB.out.mono ?_)
      rintro e w5 ⟨rfl, hg5, hr5⟩
      have HI5 := Lib.hid (HIB.out.keep hg5 hr5 he1)
      clear hg5 hr5 HB HIB HI4
      obtain ⟨dn, hdn⟩ : ∃ d, d = false := ⟨_, rfl⟩
      rw [← hdn] at HI5
      have HDN : Hid (isT (ts.drop k) 1 wDeny = dn) := Lib.hid (by rw [hdn]; exact HDE.out)
      clear hdn
      clear c0 c1 c2 c3 f0 f1 f2 f3 l4 l5
      obtain ⟨c0, c1, c2, c3⟩ := cells4 HI5.out.blk
      obtain ⟨f0, f1, f2, f3⟩ := frozen4 HI5.out.blk
      have l4 := HI5.out.blk.lt
      have l5 := HI5.out.rdr.blk.lt
      by_cases hsc : isT (ts.drop (k + 1)) 1 wScope = true
      · have HG := Lib.hid (polGoes_yes (s := wScope) HI5.out.rdr (hd_at hk1) ((HSG.out (k + 1) wScope (by decide) (by decide)).2 hsc) (by omega))
        have he2 := he1.next hsc (by decide)
        rw [drop_one] at he2
        have HL := Lib.hid (fun W hr => listedS_any ho hz hsz (w := W) (rb := rb) (tb := tb) (o := o) (c := c) (nr := nr + 1) (dp := 0) (k := k + 2) hr he2)
        have HSP0 := Lib.hid (scopes_is (ts.drop (k + 1)) hsc he1)
        rw [drop_one] at HSP0
        obtain ⟨q, hq⟩ : ∃ q, q = listS (ts.drop (k + 2)) := ⟨_, rfl⟩
        rw [← hq] at HL HSP0
        clear c0 c1 c2 c3 f0 f1 f2 f3 l4 l5 hsc hq
        go_wp2_with fail
        (with_reducible refine HG.out.mono ?_)
        rintro e w6 ⟨rfl, hg6, hr6⟩
        have HI6 := Lib.hid (HI5.out.keep hg6 hr6 he2)
        have HL6 := Lib.hid (HL.out w6 hr6)
        clear hg6 hr6
        go_wp2_with fail
        (with_reducible refine HL6.out.mono ?_)
        rintro e w7 (⟨h0, k7, A, cc, rfl, hr7, he7, hrep, hcn, hrd, hg7⟩ | ⟨h0, hG⟩)
        · have HSP : Hid (scopesP (ts.drop (k + 1)) = (q.1, ts.drop k7, 0)) := Lib.hid (by rw [HSP0.out, if_neg (by simpa using h0), ← hr7]; exact congrArg (Prod.mk q.1) (Prod.ext rfl h0))
          have HI7 := Lib.hid (HI6.out.keep hg7 hrd he7)
          obtain ⟨n, hn⟩ : ∃ n, n = q.1.length := ⟨_, rfl⟩
          rw [← hn] at hrep ⊢
          have HI8 := Lib.hid (HI7.out.put (i := 1) (x := .slice A n cc) (d' := dn) (A' := A) (n' := n) (cc' := cc) (B' := none) (m' := 0) (cd' := 0) (sc' := q.1) (wh' := []) rfl (hrep.keeps (Keeps.refl _ _) (fun b (hb : w6.heap.size ≤ b) _ => by have := HI6.out.blk.lt; have := HI6.out.gt; exact ⟨by omega, by omega⟩)) HI7.out.when_)
          obtain ⟨c0, c1, c2, c3⟩ := cells4 HI7.out.blk
          obtain ⟨f0, f1, f2, f3⟩ := frozen4 HI7.out.blk
          have l4 := HI7.out.blk.lt
          have hk7 := ends_lt he7
          obtain ⟨sc, hscq⟩ : ∃ s, s = q.1 := ⟨_, rfl⟩
          rw [← hscq] at HSP HI8
          clear h0 hr7 hrep hcn hrd hg7 hn HSP0 HL HL6 HG HI5 HI6 HI7
          go_upto_region 10 with fail
          refine wp_gen (fun W8 hW8 => ?_)
          rw [← hW8] at HI8
          clear hW8 c0 c1 c2 c3 f0 f1 f2 f3 l4 hscq
          by_cases hwh : isT (ts.drop k7) 1 wWhen = true
          · have HG := Lib.hid (polGoes_yes (s := wWhen) HI8.out.rdr (hd_at hk7) ((HSG.out k7 wWhen (by decide) (by decide)).2 hwh) (by omega))
            have he8 := he7.next hwh (by decide)
            rw [drop_one] at he8
            have HE := Lib.hid (fun W hr => HEI.out W (k7 + 1) hr he8)
            have HWP0 : Hid (whenP (ts.drop k7) = if (orD 12 (ts.drop (k7 + 1))).2.2 ≠ 0 then ([], (orD 12 (ts.drop (k7 + 1))).2) else ([(orD 12 (ts.drop (k7 + 1))).1], (orD 12 (ts.drop (k7 + 1))).2.1, 0)) := Lib.hid (by unfold whenP; rw [if_pos hwh, drop_one])
            obtain ⟨x, hx⟩ : ∃ x, x = orD 12 (ts.drop (k7 + 1)) := ⟨_, rfl⟩
            rw [← hx] at HE HWP0
            clear hwh hx
            go_wp2_with fail
            (with_reducible refine HG.out.mono ?_)
            rintro e w9 ⟨rfl, hg9, hr9⟩
            have HI9 := Lib.hid (HI8.out.keep hg9 hr9 he8)
            have HE9 := Lib.hid (HE.out w9 hr9)
            clear hg9 hr9
            go_wp2_with fail
            (with_reducible refine HE9.out.mono ?_)
            rintro e w10 hT
            by_cases h0 : x.2.2 = 0
            · obtain ⟨k10, d0, d1, d2, D, dm, dc, d4, rfl, hr10, he10, hrep, hrd, hg10⟩ := hT.ok h0
              have HWP : Hid (whenP (ts.drop k7) = ([x.1], ts.drop k10, 0)) := Lib.hid (by rw [HWP0.out, if_neg (by simpa using h0), hr10])
              have HI10 := Lib.hid (HI9.out.keep hg10 hrd he10)
              obtain ⟨c0, c1, c2, c3⟩ := cells4 HI10.out.blk
              obtain ⟨f0, f1, f2, f3⟩ := frozen4 HI10.out.blk
              have l4 := HI10.out.blk.lt
              have hk10 := ends_lt he10
              have HP10 := Lib.hid (RepE.keeps (T := fun b => w.heap.size < b ∧ b ≠ w2.heap.size) (Keeps.refl _ _) (fun b (hb : w9.heap.size ≤ b) _ => by have := HI9.out.blk.lt; have := HI9.out.gt; exact ⟨by omega, by omega⟩) _ _ hrep)
              clear hT h0 hr10 hrep hrd hg10 HWP0 HE HE9 HG HI8 HI9
              go_upto_region 12 with fail
              refine wp_gen (fun W8 hW8 => ?_)
              have HI11 : Hid (RuI w W8 rb tb o c ts w2.heap.size k10 (nr + 1) 0 dn A n cc (some ⟨w10.heap.size, 0, none⟩) 1 1 p3 sc [x.1]) := Lib.hid (by
                have ga := World.grownBy_alloc w10 (.cells #[.int .i64 d0, .string d1, .int .i64 d2, .slice D dm dc, .int .i64 d4] 42) none
                have hnew := blkNew w10 [.int .i64 d0, .string d1, .int .i64 d2, .slice D dm dc, .int .i64 d4] 42
                have hI := HI10.out.keep (Keep.toRow ga) (HI10.out.rdr.keep ga) he10
                have b1 := HI10.out.gt
                have b2 := HI10.out.blk.lt
                have hI2 := hI.put (i := 2) (x := .slice (some ⟨w10.heap.size, 0, none⟩) 1 1) (d' := dn) (A' := A) (n' := n) (cc' := cc) (B' := some ⟨w10.heap.size, 0, none⟩) (m' := 1) (cd' := 1) (sc' := sc) (wh' := [x.1]) rfl hI.scop ⟨_, 1, rfl, by simp, fun _ => ⟨w10.heap.size, 0, rfl, ⟨by omega, by omega⟩, hnew.lt, by
                  rw [RepEs, RepEs]
                  exact ⟨⟨_, RepE.keeps (Keeps.grown ga (fun b _ e => by cases e)) (fun b hb _ => hb) _ _ HP10.out, _, _, _, _, _, rfl, hnew.cell 0, hnew.cell 1, hnew.cell 2, hnew.cell 3, hnew.cell 4⟩, trivial⟩⟩⟩
                first
                  | (rw [hW8]; exact hI2)
                  | (have hcm : ∀ v, (w10.setCell ⟨w2.heap.size, 2, none⟩ v).alloc (.cells #[.int .i64 d0, .string d1, .int .i64 d2, .slice D dm dc, .int .i64 d4] 42) = (w10.alloc (.cells #[.int .i64 d0, .string d1, .int .i64 d2, .slice D dm dc, .int .i64 d4] 42)).setCell ⟨w2.heap.size, 2, none⟩ v := fun v => (World.setCell_alloc_past _ _ _ _ b2).symm
                     rw [hW8, hcm]; exact hI2))
              obtain ⟨wh, hwhq⟩ : ∃ s, s = [x.1] := ⟨_, rfl⟩
              obtain ⟨B, hB⟩ : ∃ A : Option Addr, A = some ⟨w10.heap.size, 0, none⟩ := ⟨_, rfl⟩
              obtain ⟨m, hm⟩ : ∃ n, n = 1 := ⟨_, rfl⟩
              obtain ⟨cd, hcd⟩ : ∃ n, n = 1 := ⟨_, rfl⟩
              rw [← hwhq] at HI11 HWP
              rw [← hB] at HI11
              replace HI11 : Hid (RuI w W8 rb tb o c ts w2.heap.size k10 (nr + 1) 0 dn A n cc B m cd p3 sc wh) := Lib.hid (by rw [hm, hcd]; exact HI11.out)
              clear hW8 c0 c1 c2 c3 f0 f1 f2 f3 l4 hwhq hB hm hcd HI10 HP10
              by_cases hse : isT (ts.drop k10) 4 kSemi = true
              · have HG := Lib.hid (polMust_yes (s := kSemi) HI11.out.rdr (hd_at hk10) ((HSS.out k10).2 hse) (by omega))
                have he12 := he10.next hse (by decide)
                rw [drop_one] at he12
                have HRS : Hid (res = (⟨dn, sc, wh, p3⟩, ts.drop (k10 + 1), 0)) := Lib.hid (by
                  rw [HRU.out]; unfold ruleP
                  rw [if_neg HND.out, drop_one, HSP.out, if_neg (show ¬ (0 : Int) ≠ 0 by decide)]
                  simp only
                  rw [HWP.out, if_neg (show ¬ (0 : Int) ≠ 0 by decide)]
                  simp only
                  rw [if_neg (by rw [hse]; decide), drop_one, HDN.out, HPP.out])
                clear hse
                go_wp2_with fail
                (with_reducible refine HG.out.mono ?_)
                rintro e w12 ⟨rfl, hg12, hr12⟩
                have HI12 := Lib.hid (HI11.out.keep hg12 hr12 he12)
                clear hg12 hr12
                obtain ⟨c0, c1, c2, c3⟩ := cells4 HI12.out.blk
                obtain ⟨z0, z1, z2, z3⟩ := cells4 HI12.out.zero
                obtain ⟨f0, f1, f2, f3⟩ := frozen4 HI12.out.zero
                have HSET := Lib.hid (blk_setR HI12.out.zero (.bool dn) (.slice A n cc) (.slice B m cd) (.int .i64 p3))
                have l12 := HI12.out.zero.lt
                go_wp2
                refine bodyPost_ret (results_blkE Tryz.results56 _ _ w.heap.size _ _ _ rfl HSET.out.1 Tryz.underlying45 rfl sizeRule) rfl ?_
                rw [HRS.out]
                have b1 := HI12.out.lt
                have b2 := HI12.out.tl
                have b3 := HI12.out.ml
                have b4 := HI12.out.gt
                exact .inl ⟨rfl, k10 + 1, dn, A, n, cc, B, m, cd, p3, rfl, rfl, HI12.out.ends, ⟨_, _, rfl, HI12.out.scop.keeps (Keeps.grown HSET.out.2 (fun b (hb : _ ∧ _) e => by injection e with e; omega)) (fun b hb _ => by have := hb.1; show w.heap.size ≤ b; omega), RepL.keeps (Keeps.grown HSET.out.2 (fun b (hb : _ ∧ _) e => by injection e with e; omega)) (fun b hb _ => by have := hb.1; show w.heap.size ≤ b; omega) HI12.out.when_⟩, HI12.out.rdr.other HSET.out.2 (by omega) (by omega) (by omega), HI12.out.grown.andThen HSET.out.2 (by intro j hj; injection hj with hj; left; omega)⟩
              · have HG := Lib.hid (polMust_no (s := kSemi) HI11.out.rdr (hd_at hk10) (fun e => hse ((HSS.out k10).1 e)))
                have HRS : Hid (res = (rule0, ts.drop k10, 120)) := Lib.hid (by
                  rw [HRU.out]; unfold ruleP
                  rw [if_neg HND.out, drop_one, HSP.out, if_neg (show ¬ (0 : Int) ≠ 0 by decide)]
                  simp only
                  rw [HWP.out, if_neg (show ¬ (0 : Int) ≠ 0 by decide)]
                  simp only
                  rw [if_pos (by simpa using hse)])
                clear hse
                go_wp2_with fail
                (with_reducible refine HG.out.mono ?_)
                rintro e w12 hG
                have HF := Lib.hid (hG.from HI11.out.grown)
                obtain ⟨b, rfl, _⟩ := hG
                go_wp2
                refine ⟨rfl, ?_⟩
                rw [HRS.out]
                exact .inr ⟨(by show (120 : Int) ≠ 0; decide), HF.out⟩
            · have HRS : Hid (res = (rule0, x.2)) := Lib.hid (by rw [HRU.out]; unfold ruleP; rw [if_neg HND.out, drop_one, HSP.out, if_neg (show ¬ (0 : Int) ≠ 0 by decide)]; rw [HWP0.out, if_pos h0, if_pos h0])
              have HF := Lib.hid ((hT.bad h0).from HI9.out.grown)
              obtain ⟨b, rfl, _⟩ := hT.bad h0
              clear hT
              go_wp2
              refine ⟨rfl, ?_⟩
              rw [HRS.out]
              exact .inr ⟨h0, HF.out⟩
          · have HG := Lib.hid (polGoes_no (s := wWhen) HI8.out.rdr (hd_at hk7) (fun e => hwh ((HSG.out k7 wWhen (by decide) (by decide)).1 e)))
            have HWP0 : Hid (whenP (ts.drop k7) = ([], ts.drop k7, 0)) := Lib.hid (by unfold whenP; rw [if_neg hwh])
            clear hwh
            go_wp2_with fail
            (with_reducible refine HG.out.mono ?_)
            rintro e W8 ⟨rfl, hg9⟩
            have HI9 := Lib.hid (HI8.out.keep (Keep.toRow hg9) (HI8.out.rdr.keep hg9) he7)
            clear hg9 HG HI8
            go_upto_region 12 with fail
            obtain ⟨wh, hwhq⟩ : ∃ s : List Ex, s = [] := ⟨_, rfl⟩
            obtain ⟨B, hB⟩ : ∃ A : Option Addr, A = none := ⟨_, rfl⟩
            obtain ⟨m, hm⟩ : ∃ n, n = 0 := ⟨_, rfl⟩
            obtain ⟨cd, hcd⟩ : ∃ n, n = 0 := ⟨_, rfl⟩
            obtain ⟨k10, hk10e⟩ : ∃ x, x = k7 := ⟨_, rfl⟩
            have he10 : Ends (ts.drop k10) := by rw [hk10e]; exact he7
            have hk10 := ends_lt he10
            have HI11 : Hid (RuI w W8 rb tb o c ts w2.heap.size k10 (nr + 1) 0 dn A n cc B m cd p3 sc wh) := Lib.hid (by rw [hm, hcd, hB, hwhq, hk10e]; exact HI9.out)
            have HWP : Hid (whenP (ts.drop k7) = (wh, ts.drop k10, 0)) := Lib.hid (by rw [hwhq, hk10e]; exact HWP0.out)
            clear hwhq hB hm hcd hk10e HI9 HWP0
            by_cases hse : isT (ts.drop k10) 4 kSemi = true
            · have HG := Lib.hid (polMust_yes (s := kSemi) HI11.out.rdr (hd_at hk10) ((HSS.out k10).2 hse) (by omega))
              have he12 := he10.next hse (by decide)
              rw [drop_one] at he12
              have HRS : Hid (res = (⟨dn, sc, wh, p3⟩, ts.drop (k10 + 1), 0)) := Lib.hid (by
                rw [HRU.out]; unfold ruleP
                rw [if_neg HND.out, drop_one, HSP.out, if_neg (show ¬ (0 : Int) ≠ 0 by decide)]
                simp only
                rw [HWP.out, if_neg (show ¬ (0 : Int) ≠ 0 by decide)]
                simp only
                rw [if_neg (by rw [hse]; decide), drop_one, HDN.out, HPP.out])
              clear hse
              go_wp2_with fail
              (with_reducible refine HG.out.mono ?_)
              rintro e w12 ⟨rfl, hg12, hr12⟩
              have HI12 := Lib.hid (HI11.out.keep hg12 hr12 he12)
              clear hg12 hr12
              obtain ⟨c0, c1, c2, c3⟩ := cells4 HI12.out.blk
              obtain ⟨z0, z1, z2, z3⟩ := cells4 HI12.out.zero
              obtain ⟨f0, f1, f2, f3⟩ := frozen4 HI12.out.zero
              have HSET := Lib.hid (blk_setR HI12.out.zero (.bool dn) (.slice A n cc) (.slice B m cd) (.int .i64 p3))
              have l12 := HI12.out.zero.lt
              go_wp2
              refine bodyPost_ret (results_blkE Tryz.results56 _ _ w.heap.size _ _ _ rfl HSET.out.1 Tryz.underlying45 rfl sizeRule) rfl ?_
              rw [HRS.out]
              have b1 := HI12.out.lt
              have b2 := HI12.out.tl
              have b3 := HI12.out.ml
              have b4 := HI12.out.gt
              exact .inl ⟨rfl, k10 + 1, dn, A, n, cc, B, m, cd, p3, rfl, rfl, HI12.out.ends, ⟨_, _, rfl, HI12.out.scop.keeps (Keeps.grown HSET.out.2 (fun b (hb : _ ∧ _) e => by injection e with e; omega)) (fun b hb _ => by have := hb.1; show w.heap.size ≤ b; omega), RepL.keeps (Keeps.grown HSET.out.2 (fun b (hb : _ ∧ _) e => by injection e with e; omega)) (fun b hb _ => by have := hb.1; show w.heap.size ≤ b; omega) HI12.out.when_⟩, HI12.out.rdr.other HSET.out.2 (by omega) (by omega) (by omega), HI12.out.grown.andThen HSET.out.2 (by intro j hj; injection hj with hj; left; omega)⟩
            · have HG := Lib.hid (polMust_no (s := kSemi) HI11.out.rdr (hd_at hk10) (fun e => hse ((HSS.out k10).1 e)))
              have HRS : Hid (res = (rule0, ts.drop k10, 120)) := Lib.hid (by
                rw [HRU.out]; unfold ruleP
                rw [if_neg HND.out, drop_one, HSP.out, if_neg (show ¬ (0 : Int) ≠ 0 by decide)]
                simp only
                rw [HWP.out, if_neg (show ¬ (0 : Int) ≠ 0 by decide)]
                simp only
                rw [if_pos (by simpa using hse)])
              clear hse
              go_wp2_with fail
              (with_reducible refine HG.out.mono ?_)
              rintro e w12 hG
              have HF := Lib.hid (hG.from HI11.out.grown)
              obtain ⟨b, rfl, _⟩ := hG
              go_wp2
              refine ⟨rfl, ?_⟩
              rw [HRS.out]
              exact .inr ⟨(by show (120 : Int) ≠ 0; decide), HF.out⟩
        · have HRS : Hid (res = (rule0, q.2)) := Lib.hid (by rw [HRU.out]; unfold ruleP; rw [if_neg HND.out, drop_one, HSP0.out, if_pos h0]; rw [if_pos h0])
          have HF := Lib.hid (hG.from HI6.out.grown)
          obtain ⟨b, rfl, _⟩ := hG
          go_wp2
          refine ⟨rfl, ?_⟩
          rw [HRS.out]
          exact .inr ⟨h0, HF.out⟩
      · have HG := Lib.hid (polGoes_no (s := wScope) HI5.out.rdr (hd_at hk1) (fun e => hsc ((HSG.out (k + 1) wScope (by decide) (by decide)).1 e)))
        have HSP : Hid (scopesP (ts.drop (k + 1)) = ([], ts.drop (k + 1), 0)) := Lib.hid (if_neg hsc)
        clear c0 c1 c2 c3 f0 f1 f2 f3 l4 l5 hsc
        go_wp2_with fail
        (with_reducible refine HG.out.mono ?_)
        rintro e w6 ⟨rfl, hg6⟩
        have HI8 := Lib.hid (HI5.out.keep (Keep.toRow hg6) (HI5.out.rdr.keep hg6) he1)
        clear hg6 HG HI5
        go_upto_region 10 with fail
        refine wp_gen (fun W8 hW8 => ?_)
        subst hW8
        obtain ⟨A, hA⟩ : ∃ A : Option Addr, A = none := ⟨_, rfl⟩
        obtain ⟨n, hn⟩ : ∃ n, n = 0 := ⟨_, rfl⟩
        obtain ⟨cc, hcc⟩ : ∃ n, n = 0 := ⟨_, rfl⟩
        obtain ⟨sc, hscq⟩ : ∃ s : List ByteArray, s = [] := ⟨_, rfl⟩
        obtain ⟨k7, hk7e⟩ : ∃ x, x = k + 1 := ⟨_, rfl⟩
        rw [← hscq, ← hk7e] at HSP
        have he7 : Ends (ts.drop k7) := by rw [hk7e]; exact he1
        have hk7 := ends_lt he7
        replace HI8 : Hid (RuI w W8 rb tb o c ts w2.heap.size k7 (nr + 1) 0 dn A n cc none 0 0 p3 sc []) := Lib.hid (by rw [hn, hcc, hA, hscq, hk7e]; exact HI8.out)
        rw [hk7e] at HSP
        replace HSP : Hid (scopesP (ts.drop (k + 1)) = (sc, ts.drop k7, 0)) := Lib.hid (by rw [hk7e]; exact HSP.out)
        clear hA hn hcc hscq hk7e
        by_cases hwh : isT (ts.drop k7) 1 wWhen = true
        · have HG := Lib.hid (polGoes_yes (s := wWhen) HI8.out.rdr (hd_at hk7) ((HSG.out k7 wWhen (by decide) (by decide)).2 hwh) (by omega))
          have he8 := he7.next hwh (by decide)
          rw [drop_one] at he8
          have HE := Lib.hid (fun W hr => HEI.out W (k7 + 1) hr he8)
          have HWP0 : Hid (whenP (ts.drop k7) = if (orD 12 (ts.drop (k7 + 1))).2.2 ≠ 0 then ([], (orD 12 (ts.drop (k7 + 1))).2) else ([(orD 12 (ts.drop (k7 + 1))).1], (orD 12 (ts.drop (k7 + 1))).2.1, 0)) := Lib.hid (by unfold whenP; rw [if_pos hwh, drop_one])
          obtain ⟨x, hx⟩ : ∃ x, x = orD 12 (ts.drop (k7 + 1)) := ⟨_, rfl⟩
          rw [← hx] at HE HWP0
          clear hwh hx
          go_wp2_with fail
          (with_reducible refine HG.out.mono ?_)
          rintro e w9 ⟨rfl, hg9, hr9⟩
          have HI9 := Lib.hid (HI8.out.keep hg9 hr9 he8)
          have HE9 := Lib.hid (HE.out w9 hr9)
          clear hg9 hr9
          go_wp2_with fail
          (with_reducible refine HE9.out.mono ?_)
          rintro e w10 hT
          by_cases h0 : x.2.2 = 0
          · obtain ⟨k10, d0, d1, d2, D, dm, dc, d4, rfl, hr10, he10, hrep, hrd, hg10⟩ := hT.ok h0
            have HWP : Hid (whenP (ts.drop k7) = ([x.1], ts.drop k10, 0)) := Lib.hid (by rw [HWP0.out, if_neg (by simpa using h0), hr10])
            have HI10 := Lib.hid (HI9.out.keep hg10 hrd he10)
            obtain ⟨c0, c1, c2, c3⟩ := cells4 HI10.out.blk
            obtain ⟨f0, f1, f2, f3⟩ := frozen4 HI10.out.blk
            have l4 := HI10.out.blk.lt
            have hk10 := ends_lt he10
            have HP10 := Lib.hid (RepE.keeps (T := fun b => w.heap.size < b ∧ b ≠ w2.heap.size) (Keeps.refl _ _) (fun b (hb : w9.heap.size ≤ b) _ => by have := HI9.out.blk.lt; have := HI9.out.gt; exact ⟨by omega, by omega⟩) _ _ hrep)
            clear hT h0 hr10 hrep hrd hg10 HWP0 HE HE9 HG HI8 HI9
            go_upto_region 12 with fail
            refine wp_gen (fun W8 hW8 => ?_)
            have HI11 : Hid (RuI w W8 rb tb o c ts w2.heap.size k10 (nr + 1) 0 dn A n cc (some ⟨w10.heap.size, 0, none⟩) 1 1 p3 sc [x.1]) := Lib.hid (by
              have ga := World.grownBy_alloc w10 (.cells #[.int .i64 d0, .string d1, .int .i64 d2, .slice D dm dc, .int .i64 d4] 42) none
              have hnew := blkNew w10 [.int .i64 d0, .string d1, .int .i64 d2, .slice D dm dc, .int .i64 d4] 42
              have hI := HI10.out.keep (Keep.toRow ga) (HI10.out.rdr.keep ga) he10
              have b1 := HI10.out.gt
              have b2 := HI10.out.blk.lt
              have hI2 := hI.put (i := 2) (x := .slice (some ⟨w10.heap.size, 0, none⟩) 1 1) (d' := dn) (A' := A) (n' := n) (cc' := cc) (B' := some ⟨w10.heap.size, 0, none⟩) (m' := 1) (cd' := 1) (sc' := sc) (wh' := [x.1]) rfl hI.scop ⟨_, 1, rfl, by simp, fun _ => ⟨w10.heap.size, 0, rfl, ⟨by omega, by omega⟩, hnew.lt, by
                rw [RepEs, RepEs]
                exact ⟨⟨_, RepE.keeps (Keeps.grown ga (fun b _ e => by cases e)) (fun b hb _ => hb) _ _ HP10.out, _, _, _, _, _, rfl, hnew.cell 0, hnew.cell 1, hnew.cell 2, hnew.cell 3, hnew.cell 4⟩, trivial⟩⟩⟩
              first
                | (rw [hW8]; exact hI2)
                | (have hcm : ∀ v, (w10.setCell ⟨w2.heap.size, 2, none⟩ v).alloc (.cells #[.int .i64 d0, .string d1, .int .i64 d2, .slice D dm dc, .int .i64 d4] 42) = (w10.alloc (.cells #[.int .i64 d0, .string d1, .int .i64 d2, .slice D dm dc, .int .i64 d4] 42)).setCell ⟨w2.heap.size, 2, none⟩ v := fun v => (World.setCell_alloc_past _ _ _ _ b2).symm
                   rw [hW8, hcm]; exact hI2))
            obtain ⟨wh, hwhq⟩ : ∃ s, s = [x.1] := ⟨_, rfl⟩
            obtain ⟨B, hB⟩ : ∃ A : Option Addr, A = some ⟨w10.heap.size, 0, none⟩ := ⟨_, rfl⟩
            obtain ⟨m, hm⟩ : ∃ n, n = 1 := ⟨_, rfl⟩
            obtain ⟨cd, hcd⟩ : ∃ n, n = 1 := ⟨_, rfl⟩
            rw [← hwhq] at HI11 HWP
            rw [← hB] at HI11
            replace HI11 : Hid (RuI w W8 rb tb o c ts w2.heap.size k10 (nr + 1) 0 dn A n cc B m cd p3 sc wh) := Lib.hid (by rw [hm, hcd]; exact HI11.out)
            clear hW8 c0 c1 c2 c3 f0 f1 f2 f3 l4 hwhq hB hm hcd HI10 HP10
            by_cases hse : isT (ts.drop k10) 4 kSemi = true
            · have HG := Lib.hid (polMust_yes (s := kSemi) HI11.out.rdr (hd_at hk10) ((HSS.out k10).2 hse) (by omega))
              have he12 := he10.next hse (by decide)
              rw [drop_one] at he12
              have HRS : Hid (res = (⟨dn, sc, wh, p3⟩, ts.drop (k10 + 1), 0)) := Lib.hid (by
                rw [HRU.out]; unfold ruleP
                rw [if_neg HND.out, drop_one, HSP.out, if_neg (show ¬ (0 : Int) ≠ 0 by decide)]
                simp only
                rw [HWP.out, if_neg (show ¬ (0 : Int) ≠ 0 by decide)]
                simp only
                rw [if_neg (by rw [hse]; decide), drop_one, HDN.out, HPP.out])
              clear hse
              go_wp2_with fail
              (with_reducible refine HG.out.mono ?_)
              rintro e w12 ⟨rfl, hg12, hr12⟩
              have HI12 := Lib.hid (HI11.out.keep hg12 hr12 he12)
              clear hg12 hr12
              obtain ⟨c0, c1, c2, c3⟩ := cells4 HI12.out.blk
              obtain ⟨z0, z1, z2, z3⟩ := cells4 HI12.out.zero
              obtain ⟨f0, f1, f2, f3⟩ := frozen4 HI12.out.zero
              have HSET := Lib.hid (blk_setR HI12.out.zero (.bool dn) (.slice A n cc) (.slice B m cd) (.int .i64 p3))
              have l12 := HI12.out.zero.lt
              go_wp2
              refine bodyPost_ret (results_blkE Tryz.results56 _ _ w.heap.size _ _ _ rfl HSET.out.1 Tryz.underlying45 rfl sizeRule) rfl ?_
              rw [HRS.out]
              have b1 := HI12.out.lt
              have b2 := HI12.out.tl
              have b3 := HI12.out.ml
              have b4 := HI12.out.gt
              exact .inl ⟨rfl, k10 + 1, dn, A, n, cc, B, m, cd, p3, rfl, rfl, HI12.out.ends, ⟨_, _, rfl, HI12.out.scop.keeps (Keeps.grown HSET.out.2 (fun b (hb : _ ∧ _) e => by injection e with e; omega)) (fun b hb _ => by have := hb.1; show w.heap.size ≤ b; omega), RepL.keeps (Keeps.grown HSET.out.2 (fun b (hb : _ ∧ _) e => by injection e with e; omega)) (fun b hb _ => by have := hb.1; show w.heap.size ≤ b; omega) HI12.out.when_⟩, HI12.out.rdr.other HSET.out.2 (by omega) (by omega) (by omega), HI12.out.grown.andThen HSET.out.2 (by intro j hj; injection hj with hj; left; omega)⟩
            · have HG := Lib.hid (polMust_no (s := kSemi) HI11.out.rdr (hd_at hk10) (fun e => hse ((HSS.out k10).1 e)))
              have HRS : Hid (res = (rule0, ts.drop k10, 120)) := Lib.hid (by
                rw [HRU.out]; unfold ruleP
                rw [if_neg HND.out, drop_one, HSP.out, if_neg (show ¬ (0 : Int) ≠ 0 by decide)]
                simp only
                rw [HWP.out, if_neg (show ¬ (0 : Int) ≠ 0 by decide)]
                simp only
                rw [if_pos (by simpa using hse)])
              clear hse
              go_wp2_with fail
              (with_reducible refine HG.out.mono ?_)
              rintro e w12 hG
              have HF := Lib.hid (hG.from HI11.out.grown)
              obtain ⟨b, rfl, _⟩ := hG
              go_wp2
              refine ⟨rfl, ?_⟩
              rw [HRS.out]
              exact .inr ⟨(by show (120 : Int) ≠ 0; decide), HF.out⟩
          · have HRS : Hid (res = (rule0, x.2)) := Lib.hid (by rw [HRU.out]; unfold ruleP; rw [if_neg HND.out, drop_one, HSP.out, if_neg (show ¬ (0 : Int) ≠ 0 by decide)]; rw [HWP0.out, if_pos h0, if_pos h0])
            have HF := Lib.hid ((hT.bad h0).from HI9.out.grown)
            obtain ⟨b, rfl, _⟩ := hT.bad h0
            clear hT
            go_wp2
            refine ⟨rfl, ?_⟩
            rw [HRS.out]
            exact .inr ⟨h0, HF.out⟩
        · have HG := Lib.hid (polGoes_no (s := wWhen) HI8.out.rdr (hd_at hk7) (fun e => hwh ((HSG.out k7 wWhen (by decide) (by decide)).1 e)))
          have HWP0 : Hid (whenP (ts.drop k7) = ([], ts.drop k7, 0)) := Lib.hid (by unfold whenP; rw [if_neg hwh])
          clear hwh
          go_wp2_with fail
          (with_reducible refine HG.out.mono ?_)
          rintro e W8 ⟨rfl, hg9⟩
          have HI9 := Lib.hid (HI8.out.keep (Keep.toRow hg9) (HI8.out.rdr.keep hg9) he7)
          clear hg9 HG HI8
          go_upto_region 12 with fail
          obtain ⟨wh, hwhq⟩ : ∃ s : List Ex, s = [] := ⟨_, rfl⟩
          obtain ⟨B, hB⟩ : ∃ A : Option Addr, A = none := ⟨_, rfl⟩
          obtain ⟨m, hm⟩ : ∃ n, n = 0 := ⟨_, rfl⟩
          obtain ⟨cd, hcd⟩ : ∃ n, n = 0 := ⟨_, rfl⟩
          obtain ⟨k10, hk10e⟩ : ∃ x, x = k7 := ⟨_, rfl⟩
          have he10 : Ends (ts.drop k10) := by rw [hk10e]; exact he7
          have hk10 := ends_lt he10
          have HI11 : Hid (RuI w W8 rb tb o c ts w2.heap.size k10 (nr + 1) 0 dn A n cc B m cd p3 sc wh) := Lib.hid (by rw [hm, hcd, hB, hwhq, hk10e]; exact HI9.out)
          have HWP : Hid (whenP (ts.drop k7) = (wh, ts.drop k10, 0)) := Lib.hid (by rw [hwhq, hk10e]; exact HWP0.out)
          clear hwhq hB hm hcd hk10e HI9 HWP0
          by_cases hse : isT (ts.drop k10) 4 kSemi = true
          · have HG := Lib.hid (polMust_yes (s := kSemi) HI11.out.rdr (hd_at hk10) ((HSS.out k10).2 hse) (by omega))
            have he12 := he10.next hse (by decide)
            rw [drop_one] at he12
            have HRS : Hid (res = (⟨dn, sc, wh, p3⟩, ts.drop (k10 + 1), 0)) := Lib.hid (by
              rw [HRU.out]; unfold ruleP
              rw [if_neg HND.out, drop_one, HSP.out, if_neg (show ¬ (0 : Int) ≠ 0 by decide)]
              simp only
              rw [HWP.out, if_neg (show ¬ (0 : Int) ≠ 0 by decide)]
              simp only
              rw [if_neg (by rw [hse]; decide), drop_one, HDN.out, HPP.out])
            clear hse
            go_wp2_with fail
            (with_reducible refine HG.out.mono ?_)
            rintro e w12 ⟨rfl, hg12, hr12⟩
            have HI12 := Lib.hid (HI11.out.keep hg12 hr12 he12)
            clear hg12 hr12
            obtain ⟨c0, c1, c2, c3⟩ := cells4 HI12.out.blk
            obtain ⟨z0, z1, z2, z3⟩ := cells4 HI12.out.zero
            obtain ⟨f0, f1, f2, f3⟩ := frozen4 HI12.out.zero
            have HSET := Lib.hid (blk_setR HI12.out.zero (.bool dn) (.slice A n cc) (.slice B m cd) (.int .i64 p3))
            have l12 := HI12.out.zero.lt
            go_wp2
            refine bodyPost_ret (results_blkE Tryz.results56 _ _ w.heap.size _ _ _ rfl HSET.out.1 Tryz.underlying45 rfl sizeRule) rfl ?_
            rw [HRS.out]
            have b1 := HI12.out.lt
            have b2 := HI12.out.tl
            have b3 := HI12.out.ml
            have b4 := HI12.out.gt
            exact .inl ⟨rfl, k10 + 1, dn, A, n, cc, B, m, cd, p3, rfl, rfl, HI12.out.ends, ⟨_, _, rfl, HI12.out.scop.keeps (Keeps.grown HSET.out.2 (fun b (hb : _ ∧ _) e => by injection e with e; omega)) (fun b hb _ => by have := hb.1; show w.heap.size ≤ b; omega), RepL.keeps (Keeps.grown HSET.out.2 (fun b (hb : _ ∧ _) e => by injection e with e; omega)) (fun b hb _ => by have := hb.1; show w.heap.size ≤ b; omega) HI12.out.when_⟩, HI12.out.rdr.other HSET.out.2 (by omega) (by omega) (by omega), HI12.out.grown.andThen HSET.out.2 (by intro j hj; injection hj with hj; left; omega)⟩
          · have HG := Lib.hid (polMust_no (s := kSemi) HI11.out.rdr (hd_at hk10) (fun e => hse ((HSS.out k10).1 e)))
            have HRS : Hid (res = (rule0, ts.drop k10, 120)) := Lib.hid (by
              rw [HRU.out]; unfold ruleP
              rw [if_neg HND.out, drop_one, HSP.out, if_neg (show ¬ (0 : Int) ≠ 0 by decide)]
              simp only
              rw [HWP.out, if_neg (show ¬ (0 : Int) ≠ 0 by decide)]
              simp only
              rw [if_pos (by simpa using hse)])
            clear hse
            go_wp2_with fail
            (with_reducible refine HG.out.mono ?_)
            rintro e w12 hG
            have HF := Lib.hid (hG.from HI11.out.grown)
            obtain ⟨b, rfl, _⟩ := hG
            go_wp2
            refine ⟨rfl, ?_⟩
            rw [HRS.out]
            exact .inr ⟨(by show (120 : Int) ≠ 0; decide), HF.out⟩
  have HRS : Hid (res = (rule0, ts.drop k, 120)) := Lib.hid (HRES.out.trans (if_pos ⟨by simpa using hd, by simpa using hp⟩))
  have e1 : (x.toList == [100, 101, 110, 121]) = false := neLit (fun e => hd (hsd.1 e))
  have e2 : (x.toList == [112, 101, 114, 109, 105, 116]) = false := neLit (fun e => hp (hsp.1 e))
  clear hd hp hsd hsp
  go_enter Tryz.func56, Tryz.ntmps56
  go_wp2_with fail
  rw [← hw1]
  (with_reducible refine HAH.out.mono ?_)
  rintro e w2 ⟨rfl, hg2⟩
  obtain ⟨w3, hw3⟩ : ∃ W, W = w2.alloc (.cells #[.bool false, .slice none 0 0, .slice none 0 0, .int .i64 p3] 45) := ⟨_, rfl⟩
  have g3 : w2.grownBy w3 none := by rw [hw3]; exact World.grownBy_alloc _ _ none
  have hv3 : Blk w3 w2.heap.size 45 [.bool false, .slice none 0 0, .slice none 0 0, .int .i64 p3] := by rw [hw3]; exact blkNew w2 _ _
  have HS3 := Lib.hid (HSA.out w3 ((HR1.out.keep hg2).keep g3))
  have HW3 := Lib.hid hw3
  have HI3 : Hid (RuI w w3 rb tb o c ts w2.heap.size k nr 0 false none 0 0 none 0 0 p3 [] []) := Lib.hid ⟨hv3, (HZ1.out.grownN hg2).grownN g3, (HR1.out.keep hg2).keep g3, (Keep.toRow HG1.out).trans ((Keep.toRow hg2).trans (Keep.toRow g3)), ⟨none, 0, rfl, by simp, fun h => absurd rfl h⟩, ⟨none, 0, rfl, by simp, fun h => absurd rfl h⟩, he, by have := HS1.out; have := hg2.size; omega, HLT.out, HTL.out, HML.out⟩
  clear hg2 g3 hv3 hw3
  go_wp2_with fail
  rw [← HW3.out]
  (with_reducible refine HS3.out.mono ?_)
  rintro e w4 ⟨rfl, hg4⟩
  have HI4 := Lib.hid (HI3.out.keep (Keep.toRow hg4) (HI3.out.rdr.keep hg4) he)
  obtain ⟨c0, c1, c2, c3⟩ := cells4 HI4.out.blk
  obtain ⟨f0, f1, f2, f3⟩ := frozen4 HI4.out.blk
  have l4 := HI4.out.blk.lt
  have l5 := HI4.out.rdr.blk.lt
  have l7 : rb < w2.heap.size := by have := HI4.out.gt; have := HLT.out; omega
  clear hg4 HI3 HS3
  have HG := Lib.hid (HGU.out w4 HI4.out.rdr)
  go_wp2_with fail
  (with_reducible refine HG.out.mono ?_)
  rintro e w5 hG
  have HF := Lib.hid (hG.from HI4.out.grown)
  obtain ⟨b, rfl, _⟩ := hG
  go_wp2
  refine ⟨rfl, ?_⟩
  rw [HRS.out]
  exact .inr ⟨(by show (120 : Int) ≠ 0; decide), by rw [show (hdT ((rule0, ts.drop k, 120) : RuleM × List TokM × Int).2.1).pos = p3 from HPP.out]; exact HF.out⟩
end Go.Proofs.YtcjfealalokjaaaGreatDoor
namespace Go.Proofs.YtcjfealalokjaaaGreatDoor
open Go Go.RowKit
theorem own_kind {t : TokM} (h : Own t) : t.kind ≠ 5 := fun e => by
  apply h.1
  unfold spellN
  rw [e, if_neg (by decide), if_neg (by decide), if_neg (by decide), if_neg (by decide)]
theorem ends_app : ∀ (b : List TokM) (z : TokM), (∀ t ∈ b, Own t) → z.kind = 5 → Ends (b ++ [z])
  | [], _, _, hz => hz
  | [t], z, h, hz => ⟨own_kind (h t (by simp)), hz⟩
  | t :: u :: r, z, h, hz => ⟨own_kind (h t (by simp)), ends_app (u :: r) z (fun x hx => h x (List.mem_cons_of_mem _ hx)) hz⟩
/-- What a scan tells: tokens that have a text, and the end. -/
theorem scan_ends {s : List Int} (hb : Bytes s) (h : (scanL s).2.1 = 0) : Ends (scanL s).1 ∧ AllOwn (scanL s).1 ∧ (scanL s).1.length ≤ 513 := by
  unfold scanL at h ⊢
  by_cases h2 : 2048 < s.length
  · rw [if_pos h2] at h; exact absurd h (by decide)
  rw [if_neg h2] at h ⊢
  obtain ⟨body, q, e1, ho, hn, hr⟩ := scanF_own (s.length + 1) s 0 [] hb (Nat.lt_succ_self _) (fun t ht => by cases ht) List.Pairwise.nil (by simp) h
  rw [e1]
  refine ⟨ends_app body _ ho rfl, fun t ht hk => ?_, by simp; omega⟩
  rcases List.mem_append.1 ht with ht | ht
  · exact ho t ht
  · rw [List.mem_singleton.1 ht] at hk; exact absurd rfl hk
end Go.Proofs.YtcjfealalokjaaaGreatDoor
namespace Go.Proofs.YtcjfealalokjaaaGreatDoor
open Go Go.RowKit
/-- What an owned row grows into lies above. -/
theorem own_geB {w : World} {base e size n B : Nat} {v : Value} {xs : List Value} (h : w.ownsRow base e size v n xs) (hB : B ≤ base) : ∀ k, v.ownBlock = some k → B ≤ k := fun k hk => Nat.le_trans hB (own_ge h k hk)
set_option maxRecDepth 100000 in
set_option maxHeartbeats 1000000 in
theorem scan_long (s : ByteArray) (w : World) (h : 2048 < s.size) :
    Calls Tryz.prog 26 #[.string s] w (ScanTells (scanL (strL s)) w) := by
  have HR : Hid (scanL (strL s) = ([], 2, -1)) := Lib.hid (by rw [scanL, if_pos (by rw [length_strL]; exact h)])
  have hf : (2048 : Int) < (s.size : Int) := by omega
  rw [HR.out]
  go_enter Tryz.func26, Tryz.ntmps26
  go_wp2
  go_ret2
  exact ⟨none, 0, _, rfl, Nat.le_refl _, ToksAt.nil _ _, .inr (.inl ⟨by decide, rfl, rfl⟩), Below.refl _ _⟩
set_option maxRecDepth 100000 in
set_option maxHeartbeats 8000000 in
theorem scan_short (s : ByteArray) (w : World) (hm : Marks w) (hM : MaxL w) (h : ¬ 2048 < s.size) :
    Calls Tryz.prog 26 #[.string s] w (ScanTells (scanL (strL s)) w) := by
  obtain ⟨R, hR⟩ : ∃ R, R = scanL (strL s) := ⟨_, rfl⟩
  have HR0 : Hid (R = scanF (s.size + 1) (strL s) 0 []) := Lib.hid (by rw [hR, scanL, if_neg (by rw [length_strL]; exact h), length_strL])
  rw [← hR]
  have hf : ¬ (2048 : Int) < (s.size : Int) := by omega
  have HMM := Lib.hid (And.intro hm hM)
  have hs2 : s.size ≤ 2048 := by omega
  obtain ⟨i0, hi0, hz0, hz1, hz2⟩ := info_parts infoTok
  clear hm hM h hR
  go_enter Tryz.func26, Tryz.ntmps26
  go_wp2_with fail
  go_loopw [4] (fun lv wr => ∃ (p n f : Nat) (acc : List TokM), acc.length = n ∧ n ≤ 512 ∧ p ≤ s.size ∧ Hid (R = scanF f ((strL s).drop p) p acc ∧ ((strL s).drop p).length < f) ∧ ScAt wr w.heap.size s p ∧ wr.ownsRow (w.heap.size + 1) 59 4 lv n (flatT acc) ∧ Below w.heap.size w wr) (fun _ wr => s.size - posS wr w.heap.size)
  case atStart =>
    refine ⟨0, 0, s.size + 1, [], rfl, by omega, by omega, Lib.hid ⟨by rw [List.drop_zero]; exact HR0.out, by rw [List.drop_zero, length_strL]; omega⟩, ?_, World.ownsRow_nil _ _ _ _, ?_⟩
    · exact heap_alloc_new w _
    · exact belowAlloc _ _
  case round =>
    obtain ⟨p, n, f, acc, hn, hn5, hp, HRUN, hsc, hown, hbel⟩ := hrel
    obtain ⟨A, c, rfl, hnc, htoks⟩ := own_toks hown hn
    have HSC := Lib.hid hsc
    have HOW := Lib.hid hown
    have HBE := Lib.hid hbel
    have HN := Lib.hid hn
    have hpos : posS wr w.heap.size = p := ScAt.posS hsc
    have hmr : MaxL wr := HMM.out.2.below hbel
    have HGA := Lib.hid (gap_any w.heap.size s p wr hmr hsc hp (by omega))
    have hgl := gapM_le false ((strL s).drop p)
    rw [List.length_drop, length_strL] at hgl
    obtain ⟨f', hf'⟩ : ∃ f', f = f' + 1 := ⟨f - 1, by have := HRUN.out.2; omega⟩
    rw [hf'] at HRUN
    have HLF := Lib.hid HRUN.out.2
    have HRN := Lib.hid HRUN.out.1
    obtain ⟨T, hT⟩ : ∃ T, T = tokL (((strL s).drop p).drop (gapM false ((strL s).drop p))) := ⟨_, rfl⟩
    have HTE := Lib.hid (fun (h : T.err ≠ 0) => HRN.out.trans (scanF_err (by rw [← hT]; exact h)))
    have HTN := Lib.hid (fun (h : ((strL s).drop p).drop (gapM false ((strL s).drop p)) = []) => HRN.out.trans (scanF_end h))
    have HTM := Lib.hid (fun (h : T.err = 0) h2 h3 => HRN.out.trans (scanF_many (by rw [← hT]; exact h) h2 h3))
    have HTG := Lib.hid (fun (h : T.err = 0) h2 h3 => HRN.out.trans (scanF_go (by rw [← hT]; exact h) h2 h3))
    have HTK := Lib.hid (fun (h : T.err = 0) => (hT ▸ tok_kind (by rw [← hT]; exact h) : T.kind = 5 ↔ _))
    have HTS := Lib.hid (fun (h : T.err = 0) h2 => (hT ▸ tok_size (by rw [← hT]; exact h) h2 : 1 ≤ T.size ∧ T.size ≤ _))
    have HTZ := Lib.hid (fun (h : ((strL s).drop p).drop (gapM false ((strL s).drop p)) = []) => show T.text = [] ∧ T.num = 0 by rw [hT, h]; exact ⟨rfl, rfl⟩)
    rw [← hT] at HTE HTG
    have HTO := Lib.hid (fun (W : World) (hW : Marks W) (hS : ScAt W w.heap.size s (p + gapM false ((strL s).drop p))) => token_any w.heap.size s (p + gapM false ((strL s).drop p)) W hW hS (by omega) (by omega))
    rw [← List.drop_drop, ← hT] at HTO
    obtain ⟨g, hg⟩ : ∃ g, g = gapM false ((strL s).drop p) := ⟨_, rfl⟩
    rw [← hg] at HGA hgl HTE HTN HTM HTG HTK HTS HTO HTZ
    clear hsc hown hbel hn htoks hT hg HRUN hf' HRN
    go_wp2_with fail
    refine HGA.out.mono ?_
    rintro e w1 ⟨rfl, hg1, hs1⟩
    have HS1 := Lib.hid hs1
    have HB1 := Lib.hid (HBE.out.grown hg1 HBE.out.size (by intro k hk; injection hk with hk; omega))
    have HOW1 := Lib.hid (HOW.out.kept hg1 (.inr (fun e => by have := (HOW.out.lt _ e).1; omega)))
    clear hg1 hs1
    go_wp2_with fail
    refine (HTO.out w1 (HMM.out.1.below HB1.out) HS1.out).mono ?_
    rintro e w2 (⟨he, k2, s2, n2, p2, v, rfl, hv, hg2⟩ | ⟨he, rfl, hg2, hs2'⟩)
    · have HB2 := Lib.hid (HB1.out.grown hg2 HB1.out.size (by intro k hk; injection hk with hk; omega))
      have HV := Lib.hid (AtE.low (w := w) hv HB1.out.size)
      obtain ⟨ab, rfl, _, _, _⟩ := hv
      have HR := Lib.hid (HTE.out he)
      have HE := Lib.hid he
      clear hg2 he HTO HTE HTN HTM HTG HTK HTS
      have HB24 := Lib.hid (belowAlloc w2 (.cells #[.int .i64 k2, .string s2, .int .i64 n2, .int .i64 p2] 59))
      go_wp2_with fail
      go_ret2
      rw [HR.out]
      exact ⟨none, 0, _, rfl, Nat.le_refl _, ToksAt.nil _ _, .inr (.inr ⟨HE.out, by show (0 : Int) ≤ ((p + g + T.off : Nat) : Int); omega, AtE.below HV.out HB24.out⟩), HB2.out.trans (HB24.out.mono HB2.out.size)⟩
    · have HB2 := Lib.hid (HB1.out.grown hg2 HB1.out.size (by intro k hk; injection hk with hk; omega))
      have HOW2 := Lib.hid (HOW1.out.kept hg2 (.inr (fun e => by have := (HOW1.out.lt _ e).1; omega)))
      have HS2 := Lib.hid hs2'
      have HK5 := Lib.hid (HTK.out he)
      have HTS2 := Lib.hid (HTS.out he)
      have HTM2 := Lib.hid (HTM.out he)
      have HTG2 := Lib.hid (HTG.out he)
      have HSZ2 : Hid (w.heap.size + 1 ≤ w2.heap.size) := Lib.hid (by have := HS2.out.lt; omega)
      have HZ2 := Lib.hid (HTZ.out)
      obtain ⟨K, hK⟩ : ∃ K, K = T.kind := ⟨_, rfl⟩
      obtain ⟨X, hX⟩ : ∃ X, X = toS T.text := ⟨_, rfl⟩
      obtain ⟨N, hN⟩ : ∃ N, N = T.num := ⟨_, rfl⟩
      obtain ⟨Q, hQ⟩ : ∃ Q : Int, Q = ((p + g : Nat) : Int) := ⟨_, rfl⟩
      rw [← hK, ← hX, ← hN, ← hQ]
      rw [← hK] at HK5
      have HMD : Hid (madeT T (p + g) = ⟨K, X, N, Q⟩) := Lib.hid (by rw [hK, hX, hN, hQ]; rfl)
      have HQ := Lib.hid hQ
      have HXN := Lib.hid (And.intro hX hN)
      clear hg2 hs2' he HTO HTE HTM HTG HTK HTS HTZ hK hX hN hQ
      by_cases h5 : K = 5
      · have hnil := HK5.out.1 h5
        have HR := Lib.hid (HTN.out hnil)
        have e5 : (K == 5) = true := by rw [h5]; rfl
        have HCE : Hid (cellsT (endT (p + g)) = [.int .i64 K, .string X, .int .i64 N, .int .i64 Q]) := Lib.hid (by
          obtain ⟨z1, z2⟩ := HZ2.out hnil
          rw [HXN.out.1, HXN.out.2, z1, z2, HQ.out, h5]; rfl)
        clear HTN HTM2 HTG2 HTS2 hnil h5
        go_wp2_with (at_builtin; refine wpList_append_own _ rfl _ _ 52 rfl (w.heap.size + 1) 59 i0 (.agg #[.int .i64 0, .string ByteArray.empty, .int .i64 0, .int .i64 0]) 4 40 Tryz.underlying52 hi0 hz0 hz1 hz2 rfl (by decide) _ n _ rfl ((HOW2.out.alloc _).alloc _) ⟨w2.heap.size + 1, 0, none⟩ 1 1 [.int .i64 K, .string X, .int .i64 N, .int .i64 Q] rfl rfl ?c1 ?c2 ?c3 ?c4 ?c5 ?_)
        case c1 =>
          intro i u hi
          match i, hi with
          | 0, hi => simp at hi; subst hi; simp [Addr.add]
          | 1, hi => simp at hi; subst hi; simp [Addr.add]
          | 2, hi => simp at hi; subst hi; simp [Addr.add]
          | 3, hi => simp at hi; subst hi; simp [Addr.add]
        case c2 => intro u hu; simp at hu; rcases hu with rfl | rfl | rfl | rfl <;> rfl
        case c3 => unfold maxLen; omega
        case c4 => omega
        case c5 => have := HSZ2.out; simp; omega
        intro v' w5 hown' hgr5 _
        have HO5 := Lib.hid hown'
        have HB25 := Lib.hid (show Below w.heap.size w w5 from ((HB2.out.alloc HB2.out.size _).alloc (by have := HB2.out.size; simp; omega) _).grown hgr5 (by have := HB2.out.size; simp; omega) (own_geB HOW2.out (by omega)))
        clear hown' hgr5
        obtain ⟨A', c', rfl, hnc', htk⟩ := own_toks (ts := acc ++ [endT (p + g)]) (n := n + 1) (by rw [flatT_snoc, HCE.out]; exact HO5.out) (by rw [List.length_append, HN.out]; rfl)
        have HTK' := Lib.hid htk
        clear htk
        go_wp2_with fail
        go_ret2
        rw [HR.out]
        have hl : (acc ++ [endT (p + g)]).length = n + 1 := by rw [List.length_append, HN.out]; rfl
        exact ⟨A', c', .nilIface, by rw [hl]; rfl, by rw [hl]; exact hnc', HTK'.out, .inl ⟨rfl, rfl, rfl⟩, HB25.out⟩
      · have e5 : (K == 5) = false := by rw [beq_eq_false_iff_ne]; exact h5
        have hnil := fun h => h5 (HK5.out.2 h)
        obtain ⟨t1, t2⟩ := HTS2.out hnil
        rw [List.length_drop, List.length_drop, length_strL] at t2
        by_cases h512 : n = 512
        · have HR := Lib.hid (HTM2.out hnil (by rw [HN.out]; exact h512))
          have e6 : ((n : Int) == 512) = true := by rw [h512]; rfl
          have HAT := Lib.hid (fun W : World => atN_any Q 53 W)
          clear HTN HTM2 HTG2 HTS2 hnil h5 h512
          go_wp2_with fail
          refine (HAT.out _).mono ?_
          rintro e w5 ⟨⟨v, rfl, hv⟩, hb5⟩
          have HV := Lib.hid (AtE.low (w := w) hv (by have := HB2.out.size; simp; omega))
          have HB5 := Lib.hid ((HB2.out.alloc HB2.out.size (.cells #[.int .i64 K, .string X, .int .i64 N, .int .i64 Q] 59)).trans (hb5.mono (by have := HB2.out.size; simp; omega)))
          clear hv hb5
          go_wp2_with fail
          go_ret2
          rw [HR.out]
          exact ⟨none, 0, _, rfl, Nat.le_refl _, ToksAt.nil _ _, .inr (.inr ⟨by show (53 : Int) ≠ 0; decide, by show (0 : Int) ≤ ((p + g : Nat) : Int); omega, by rw [← HQ.out]; exact HV.out⟩), HB5.out⟩
        · have HR := Lib.hid (HTG2.out hnil (by rw [HN.out]; exact h512))
          have e6 : ((n : Int) == 512) = false := by rw [beq_eq_false_iff_ne]; omega
          have hn511 : n ≤ 511 := by omega
          have HT12 := Lib.hid (And.intro t1 t2)
          clear HTN HTM2 HTG2 HTS2 hnil h5 h512
          go_wp2_with (at_builtin; refine wpList_append_own _ rfl _ _ 52 rfl (w.heap.size + 1) 59 i0 (.agg #[.int .i64 0, .string ByteArray.empty, .int .i64 0, .int .i64 0]) 4 40 Tryz.underlying52 hi0 hz0 hz1 hz2 rfl (by decide) _ n _ rfl ((HOW2.out.alloc _).alloc _) ⟨w2.heap.size + 1, 0, none⟩ 1 1 [.int .i64 K, .string X, .int .i64 N, .int .i64 Q] rfl rfl ?c1 ?c2 ?c3 ?c4 ?c5 ?_)
          case c1 =>
            intro i u hi
            match i, hi with
            | 0, hi => simp at hi; subst hi; simp [Addr.add]
            | 1, hi => simp at hi; subst hi; simp [Addr.add]
            | 2, hi => simp at hi; subst hi; simp [Addr.add]
            | 3, hi => simp at hi; subst hi; simp [Addr.add]
          case c2 => intro u hu; simp at hu; rcases hu with rfl | rfl | rfl | rfl <;> rfl
          case c3 => unfold maxLen; omega
          case c4 => omega
          case c5 => have := HSZ2.out; simp; omega
          intro v' w5 hown' hgr5 _
          have HO5 := Lib.hid hown'
          have HB25 := Lib.hid (show Below w.heap.size w w5 from ((HB2.out.alloc HB2.out.size _).alloc (by have := HB2.out.size; simp; omega) _).grown hgr5 (by have := HB2.out.size; simp; omega) (own_geB HOW2.out (by omega)))
          have HF := Lib.hid (show w5.ownsRow (w.heap.size + 1) 59 4 v' (n + 1) (flatT (acc ++ [madeT T (p + g)])) by rw [flatT_snoc, HMD.out]; exact HO5.out)
          have HS5 := Lib.hid (show ScAt w5 w.heap.size s (p + g + T.size) from Blk.grown (Blk.grownN (Blk.grownN HS2.out (World.grownBy_alloc _ _ none)) (World.grownBy_alloc _ _ none)) hgr5 (fun e => by have := own_geB HOW2.out (Nat.le_refl _) _ e.symm; omega))
          clear hown' hgr5
          go_wp2_with fail
          go_roundw
          case rel =>
            have hl : (acc ++ [madeT T (p + g)]).length = n + 1 := by rw [List.length_append, HN.out]; rfl
            refine ⟨p + g + T.size, n + 1, f', acc ++ [madeT T (p + g)], hl, by omega, by have := HT12.out; omega, Lib.hid ⟨?_, ?_⟩, HS5.out, HF.out, HB25.out⟩
            · rw [HR.out, List.drop_drop, Nat.add_assoc]
            · have h1 := HLF.out
              have h2 := HT12.out
              rw [List.length_drop, length_strL] at h1 ⊢
              omega
          case measure => rw [hpos, ScAt.posS HS5.out]; have := HT12.out; omega
end Go.Proofs.YtcjfealalokjaaaGreatDoor
namespace Go.Proofs.YtcjfealalokjaaaGreatDoor
open Go Go.RowKit
/-! ### Without places -/
/-! ### What lies below, later -/
theorem RepE.under {B : Nat} {W W' : World} {e : Ex} {v : Value} (h : RepE W (fun k => k < B) e v) (hB : B ≤ W.heap.size) (hb : Below W.heap.size W W') : RepE W' (fun k => k < B) e v :=
  RepE.keeps (S := fun k => k < B) (T := fun k => k < B) (Keeps.below (hb.mono hB) (fun _ h _ => h)) (fun _ h _ => h) _ _ h
theorem RepEs.under {B b o : Nat} {W W' : World} {l : List Ex} (h : RepEs W (fun k => k < B) b o l) (hB : B ≤ W.heap.size) (hg : b < B) (hb : Below W.heap.size W W') : RepEs W' (fun k => k < B) b o l :=
  repEs_keeps (S := fun k => k < B) (T := fun k => k < B) (Keeps.below (hb.mono hB) (fun _ h _ => h)) (fun _ h _ => h) hg (Nat.lt_of_lt_of_le hg hB) _ _ h
theorem RepP.under {B : Nat} {W W' : World} {l : List RuleM} {v : Value} (h : RepP W (fun k => k < B) l v) (hB : B ≤ W.heap.size) (hb : Below W.heap.size W W') : RepP W' (fun k => k < B) l v :=
  h.keeps (S := fun k => k < B) (T := fun k => k < B) (Keeps.below (hb.mono hB) (fun _ h _ => h)) (fun _ h _ => h)
/-- All that there is lies below the heap's end. -/
theorem RepP.all {S : Nat → Prop} {W : World} {l : List RuleM} {v : Value} (h : RepP W S l v) : RepP W (fun k => k < W.heap.size) l v :=
  h.keeps (Keeps.refl S W) (fun _ _ h => h)
/-- An expression's five cells. -/
theorem RepE.cells {S : Nat → Prop} {W : World} {j : Ex} {v : Value} {b o : Nat} (h : RepE W S j v) (hf : FiveE W b o v) : ∃ A x3 c, v = .agg #[.int .i64 j.op, .string j.text, .int .i64 j.num, .slice A x3 c, .int .i64 j.pos] ∧ x3 = j.parts.length ∧ W.cell? ⟨b, o, none⟩ = some (.int .i64 j.op) ∧ W.cell? ⟨b, o + 1, none⟩ = some (.string j.text) ∧ W.cell? ⟨b, o + 2, none⟩ = some (.int .i64 j.num) ∧ W.cell? ⟨b, o + 3, none⟩ = some (.slice A x3 c) ∧ W.cell? ⟨b, o + 4, none⟩ = some (.int .i64 j.pos) := by
  obtain ⟨A, c, rfl, _, hl, hc⟩ := h.open
  obtain ⟨a0, a1, a2, a3, a4, e, h0, h1, h2, h3, h4⟩ := hf
  simp only [Value.agg.injEq, Array.mk.injEq, List.cons.injEq, and_true] at e
  obtain ⟨rfl, rfl, rfl, rfl, rfl⟩ := e
  exact ⟨A, _, c, rfl, rfl, h0, h1, h2, h3, h4⟩
end Go.Proofs.YtcjfealalokjaaaGreatDoor
namespace Go.Proofs.YtcjfealalokjaaaGreatDoor
open Go Go.RowKit
/-- With commas between. -/
def joinC : List (List Int) → List Int
  | [] => []
  | [x] => x
  | x :: y :: r => x ++ 44 :: 32 :: joinC (y :: r)
def signL (op : Int) : List Int := if op = 9 then [61] else if op = 10 then [33, 61] else if op = 11 then [60] else if op = 12 then [60, 61] else if op = 14 then [104, 97, 115] else []
def isNilL {α : Type} : List α → Bool | [] => true | _ => false
/-- Is an expression right, n levels left? -/
def leafG (op : Int) (s : ByteArray) (n : Int) : Bool :=
  if op = 1 then decide (s = E0) && decide (n = 0 ∨ n = 1)
  else if op = 2 then decide (s = E0) && decide (-9007199254740991 ≤ n ∧ n ≤ 9007199254740991)
  else if op = 3 ∨ op = 5 then decide (n = 0) && (quoteN (strL s)).2
  else decide (n = 0) && !kept s && decide (0 < s.size) && decide (spellN (wordT s) = strL s)
def goodF : Nat → Ex → Bool
  | 0, _ => false
  | f + 1, .mk op s n l _ =>
    if op < 1 ∨ 14 < op then false
    else if op ≤ 5 then isNilL l && leafG op s n
    else if n ≠ 0 ∨ s ≠ E0 ∨ (op = 6 ∧ l.length ≠ 1) ∨ (op ≠ 6 ∧ op ≠ 13 ∧ l.length ≠ 2) ∨ (op = 13 ∧ l.length < 2) then false
    else l.all (goodF f)
/-- A text within brackets, where it must be. -/
def askedL (op : Int) (a : Nat) (x : List Int) : List Int := if bindE op < a then 40 :: (x ++ [41]) else x
/-- An expression's text, n levels left, without brackets around. -/
def bareF : Nat → Ex → List Int
  | 0, _ => []
  | f + 1, .mk op s n l _ =>
    let t := fun (i a : Nat) => askedL (l.getD i ex0).op a (bareF f (l.getD i ex0))
    if op = 1 then (if n = 1 then [116, 114, 117, 101] else [102, 97, 108, 115, 101])
    else if op = 2 then prL n
    else if op = 3 then (quoteN (strL s)).1
    else if op = 4 then strL s
    else if op = 5 then [99, 108, 97, 105, 109, 40] ++ (quoteN (strL s)).1 ++ [41]
    else if op = 6 then [110, 111, 116, 32] ++ t 0 3
    else if op = 7 then t 0 2 ++ [32, 97, 110, 100, 32] ++ t 1 3
    else if op = 8 then t 0 1 ++ [32, 111, 114, 32] ++ t 1 2
    else if op = 13 then t 0 5 ++ [32, 105, 110, 32, 91] ++ joinC ((l.drop 1).map fun e => askedL e.op 5 (bareF f e)) ++ [93]
    else t 0 5 ++ 32 :: (signL op ++ 32 :: t 1 5)
def textF (f : Nat) (e : Ex) (a : Nat) : List Int := askedL e.op a (bareF f e)
theorem asked_bare {op : Int} {a : Nat} {x : List Int} (h : a ≤ bindE op) : askedL op a x = x := if_neg (by omega)
theorem good_parts {f : Nat} {op : Int} {s : ByteArray} {n p : Int} {l : List Ex} (h5 : ¬ op ≤ 5) (h : goodF (f + 1) (.mk op s n l p) = true) : ∀ x ∈ l, goodF f x = true := by
  rw [goodF] at h
  by_cases h1 : op < 1 ∨ 14 < op
  · rw [if_pos h1] at h; cases h
  rw [if_neg h1, if_neg h5] at h
  split at h
  · cases h
  · exact List.all_eq_true.1 h
end Go.Proofs.YtcjfealalokjaaaGreatDoor
namespace Go.Proofs.YtcjfealalokjaaaGreatDoor
open Go Go.RowKit
/-! ### Rules -/
def quoteL (s : ByteArray) : List Int := (quoteN (strL s)).1
def scopesL : List ByteArray → List Int
  | [] => []
  | s :: r => [32, 115, 99, 111, 112, 101, 32] ++ quoteL s ++ r.flatMap fun t => 44 :: 32 :: quoteL t
def whenL (f : Nat) : List Ex → List Int
  | [] => []
  | e :: _ => [32, 119, 104, 101, 110, 32] ++ textF f e 1
def ruleL (f : Nat) (x : RuleM) : List Int := strL (headW x.deny) ++ scopesL x.scopes ++ whenL f x.whens ++ [59]
def printL (f : Nat) : List RuleM → List Int
  | [] => []
  | x :: r => ruleL f x ++ r.flatMap fun y => 10 :: ruleL f y
end Go.Proofs.YtcjfealalokjaaaGreatDoor
