/- PolRfSf, PolRfSt: merged. -/
import Derived.Test.YtcjfealalokjaaaGreatDoorPa37
set_option linter.all false
namespace Go.Proofs.YtcjfealalokjaaaGreatDoor
open Go Go.RowKit
set_option maxRecDepth 100000 in
set_option maxHeartbeats 8000000 in
theorem refSame_false {l m : List RuleM} {B : Nat} {va vb : Value} {W : World} (hB : B ≤ W.heap.size) (ha : RepP W (fun k => k < B) l va) (hb : RepP W (fun k => k < B) m vb) :
    Calls Tryz.prog 14 #[va, vb, .bool false] W fun e w' => e = .returned (.bool (sameRs false l m)) ∧ Below W.heap.size W w' := by
  obtain ⟨A, c, rfl, hl, hc⟩ := ha
  obtain ⟨A', c', rfl, hl', hc'⟩ := hb
  have HSAME : Hid (sameRs false l m = true ↔ l.length = m.length ∧ ∀ i (h1 : i < l.length) (h2 : i < m.length), sameR false l[i] m[i] = true) := Lib.hid sameRs_iff
  have HC := Lib.hid hc
  have HC' := Lib.hid hc'
  have HBW := Lib.hid hB
  obtain ⟨p, hp⟩ : ∃ k, k = l.length := ⟨_, rfl⟩
  obtain ⟨q, hq⟩ : ∃ k, k = m.length := ⟨_, rfl⟩
  rw [← hp] at hl ⊢
  rw [← hq] at hl' ⊢
  have HP := Lib.hid hp
  have HQ := Lib.hid hq
  clear hc hc' hp hq hB
  by_cases hpq : p = q
  · subst hpq
    have hE : ((p : Int) != (p : Int)) = false := by simp
    go_enter Tryz.func14, Tryz.ntmps14
    go_wp2
    go_loopw [7] (fun i wr => ∃ j : Nat, j ≤ p ∧ i = .int .i64 (j : Int) ∧ (∀ x (h1 : x < l.length) (h2 : x < m.length), x < j → sameR false l[x] m[x] = true) ∧ Below W.heap.size W wr) (fun i _ => p - (intOf i).toNat)
    case atStart => exact ⟨0, by omega, rfl, fun x _ _ hx => absurd hx (Nat.not_lt_zero _), Below.refl _ _⟩
    case round =>
      obtain ⟨j, hj, rfl, hall, hbel⟩ := hrel
      have HA := Lib.hid hall
      have HBE := Lib.hid hbel
      clear hall
      by_cases hlt : j < p
      · have hj1 : j < l.length := by rw [← HP.out]; exact hlt
        have hj2 : j < m.length := by rw [← HQ.out]; exact hlt
        obtain ⟨g, o, rfl, _, hg, hrep⟩ := HC.out (fun e => by rw [e] at hj1; exact absurd hj1 (Nat.not_lt_zero _))
        obtain ⟨g', o', rfl, _, hg', hrep'⟩ := HC'.out (fun e => by rw [e] at hj2; exact absurd hj2 (Nat.not_lt_zero _))
        obtain ⟨a0, a1, a2, a3, hr1, k0, k1, k2, k3⟩ := hrep j hj1
        obtain ⟨b0, b1, b2, b3, hr2, q0, q1, q2, q3⟩ := hrep' j hj2
        obtain ⟨vs1, vw1, e1, ⟨A1, c1, rfl, hn1, hsc1⟩, ⟨D1, d1, rfl, hw1, hwc1⟩⟩ := hr1
        obtain ⟨vs2, vw2, e2, ⟨A2, c2, rfl, hn2, hsc2⟩, ⟨D2, d2, rfl, hw2, hwc2⟩⟩ := hr2
        simp only [Value.agg.injEq, Array.mk.injEq, List.cons.injEq, and_true] at e1 e2
        obtain ⟨rfl, rfl, rfl, rfl⟩ := e1
        obtain ⟨rfl, rfl, rfl, rfl⟩ := e2
        have HFL : Hid (¬ sameR false l[j] m[j] = true → sameRs false l m = false) := Lib.hid (fun hn => by
          rw [← Bool.not_eq_true, HSAME.out]
          rintro ⟨_, h⟩
          exact hn (h j hj1 hj2))
        have HOK : Hid (sameR false l[j] m[j] = true → ∀ x (h1 : x < l.length) (h2 : x < m.length), x < j + 1 → sameR false l[x] m[x] = true) := Lib.hid (fun hs x h1 h2 hx => by
          rcases Nat.lt_or_ge x j with h | h
          · exact HA.out x h1 h2 h
          · obtain rfl : x = j := by omega
            exact hs)
        obtain ⟨R1, hR1⟩ : ∃ r, r = l[j] := ⟨_, rfl⟩
        obtain ⟨R2, hR2⟩ : ∃ r, r = m[j] := ⟨_, rfl⟩
        rw [← hR1] at k0 k1 k2 k3 hsc1 hwc1 hn1 hw1
        rw [← hR2] at q0 q1 q2 q3 hsc2 hwc2 hn2 hw2
        rw [← hR1, ← hR2] at HFL HOK
        clear hR1 hR2
        have HS1 := Lib.hid hsc1
        have HS2 := Lib.hid hsc2
        have HW1 := Lib.hid hwc1
        have HW2 := Lib.hid hwc2
        obtain ⟨x0, hx0⟩ : ∃ x, x = R1.deny := ⟨_, rfl⟩
        obtain ⟨x1, hx1⟩ : ∃ x, x = R1.scopes.length := ⟨_, rfl⟩
        obtain ⟨x2, hx2⟩ : ∃ x, x = R1.whens.length := ⟨_, rfl⟩
        obtain ⟨x3, hx3⟩ : ∃ x, x = R1.pos := ⟨_, rfl⟩
        obtain ⟨y0, hy0⟩ : ∃ x, x = R2.deny := ⟨_, rfl⟩
        obtain ⟨y1, hy1⟩ : ∃ x, x = R2.scopes.length := ⟨_, rfl⟩
        obtain ⟨y2, hy2⟩ : ∃ x, x = R2.whens.length := ⟨_, rfl⟩
        obtain ⟨y3, hy3⟩ : ∃ x, x = R2.pos := ⟨_, rfl⟩
        rw [← hx0] at k0
        rw [← hx1] at k1 hn1
        rw [← hx2] at k2 hw1
        rw [← hx3] at k3
        rw [← hy0] at q0
        rw [← hy1] at q1 hn2
        rw [← hy2] at q2 hw2
        rw [← hy3] at q3
        have HSR : Hid (sameR false R1 R2 = true ↔ x0 = y0 ∧ (false = true → x3 = y3) ∧ R1.scopes = R2.scopes ∧ sameEs false R1.whens R2.whens = true) := Lib.hid (by rw [sameR_iff, hx0, hy0, hx3, hy3])
        have HLN : Hid ((x1 = R1.scopes.length ∧ y1 = R2.scopes.length) ∧ (x2 = R1.whens.length ∧ y2 = R2.whens.length)) := Lib.hid ⟨⟨hx1, hy1⟩, ⟨hx2, hy2⟩⟩
        have HK := Lib.hid (And.intro k0 (And.intro k1 (And.intro k2 (And.intro k3 trivial))))
        have HQK := Lib.hid (And.intro q0 (And.intro q1 (And.intro q2 (And.intro q3 trivial))))
        have HGL := Lib.hid (And.intro hg hg')
        have z0 : wr.cell? ⟨g, o + j * 4, none⟩ = some (.bool x0) := (hbel.cell (p := ⟨g, _, none⟩) HGL.out.1).trans HK.out.1
        have u0 : wr.cell? ⟨g', o' + j * 4, none⟩ = some (.bool y0) := (hbel.cell (p := ⟨g', _, none⟩) HGL.out.2).trans HQK.out.1
        have z1 : wr.cell? ⟨g, o + j * 4 + 1, none⟩ = some (.slice A1 x1 c1) := (hbel.cell (p := ⟨g, _, none⟩) HGL.out.1).trans HK.out.2.1
        have u1 : wr.cell? ⟨g', o' + j * 4 + 1, none⟩ = some (.slice A2 y1 c2) := (hbel.cell (p := ⟨g', _, none⟩) HGL.out.2).trans HQK.out.2.1
        have z2 : wr.cell? ⟨g, o + j * 4 + 2, none⟩ = some (.slice D1 x2 d1) := (hbel.cell (p := ⟨g, _, none⟩) HGL.out.1).trans HK.out.2.2.1
        have u2 : wr.cell? ⟨g', o' + j * 4 + 2, none⟩ = some (.slice D2 y2 d2) := (hbel.cell (p := ⟨g', _, none⟩) HGL.out.2).trans HQK.out.2.2.1
        have z3 : wr.cell? ⟨g, o + j * 4 + 3, none⟩ = some (.int .i64 x3) := (hbel.cell (p := ⟨g, _, none⟩) HGL.out.1).trans HK.out.2.2.2.1
        have u3 : wr.cell? ⟨g', o' + j * 4 + 3, none⟩ = some (.int .i64 y3) := (hbel.cell (p := ⟨g', _, none⟩) HGL.out.2).trans HQK.out.2.2.2.1
        have i1 : (0 : Int) ≤ (j : Int) := by omega
        have i2 : (j : Int) < (p : Int) := by omega
        clear hrep hrep' hsc1 hsc2 hwc1 hwc2 hx0 hx1 hx2 hx3 hy0 hy1 hy2 hy3 k0 k1 k2 k3 q0 q1 q2 q3 hbel hj1 hj2
        by_cases e0 : x0 = y0
        · subst e0
          have cc0 : (x0 != x0) = false := by simp
          by_cases e1 : x1 = y1
          · subst e1
            have cc1 : ((x1 : Int) != (x1 : Int)) = false := by simp
            by_cases e2 : x2 = y2
            · subst e2
              have cc2 : ((x2 : Int) != (x2 : Int)) = false := by simp
              go_wp2_with fail
              refine wp_region_held_drew (S := fun X' => X'.cell? ⟨g, o + j * 4, none⟩ = some (.bool x0) ∧ X'.cell? ⟨g, o + j * 4 + 1, none⟩ = some (.slice A1 x1 c1) ∧ X'.cell? ⟨g, o + j * 4 + 2, none⟩ = some (.slice D1 x2 d1) ∧ X'.cell? ⟨g, o + j * 4 + 3, none⟩ = some (.int .i64 x3) ∧ X'.cell? ⟨g', o' + j * 4, none⟩ = some (.bool x0) ∧ X'.cell? ⟨g', o' + j * 4 + 1, none⟩ = some (.slice A2 x1 c2) ∧ X'.cell? ⟨g', o' + j * 4 + 2, none⟩ = some (.slice D2 x2 d2) ∧ X'.cell? ⟨g', o' + j * 4 + 3, none⟩ = some (.int .i64 y3)) (by kernel_rfl) ⟨z0, z1, z2, z3, u0, u1, u2, u3⟩ (fun hHeld => ?_)
              refine rgT 0 ?_
              try simp only [rgS]
              refine rgT 1 ?_
              try simp only [rgS]
              refine rgT 2 ?_
              try simp only [rgS]
              refine rgT 3 ?_
              try simp only [rgS]
              refine rgT 4 ?_
              try simp only [rgS]
              refine rgT 5 ?_
              try simp only [rgS]
              refine rgT 6 ?_
              try simp only [rgS]
              refine rgT 7 ?_
              try simp only [rgS]
              refine rgT 8 ?_
              try simp only [rgS]
              refine rgT 9 ?_
              try simp only [rgS]
              refine rgT 10 ?_
              try simp only [rgS, cc0]
              refine rgT 11 ?_
              try simp only [rgS]
              refine rgT 12 ?_
              try simp only [rgS]
              refine rgT 13 ?_
              try simp only [rgS]
              refine rgU 14 ?_
              try simp only [rgS]
              refine rgU 15 ?_
              try simp only [rgS]
              refine rgU 16 ?_
              try simp only [rgS]
              refine rgU 17 ?_
              try simp only [rgS]
              refine rgU 18 ?_
              try simp only [rgS]
              refine rgU 19 ?_
              try simp only [rgS]
              refine rgU 20 ?_
              try simp only [rgS]
              refine rgU 21 ?_
              try simp only [rgS]
              refine rgU 22 ?_
              try simp only [rgS]
              refine rgU 23 ?_
              try simp only [rgS]
              refine rgU 24 ?_
              try simp only [rgS]
              refine rgT 25 ?_
              try simp only [rgS]
              refine rgT 26 ?_
              try simp only [rgS]
              refine rgT 27 ?_
              try simp only [rgS]
              refine rgT 28 ?_
              try simp only [rgS]
              refine rgT 29 ?_
              try simp only [rgS]
              refine rgT 30 ?_
              try simp only [rgS]
              refine rgT 31 ?_
              try simp only [rgS]
              refine rgT 32 ?_
              try simp only [rgS]
              refine rgT 33 ?_
              try simp only [rgS]
              refine rgT 34 ?_
              try simp only [rgS]
              refine rgT 35 ?_
              try simp only [rgS]
              refine rgT 36 ?_
              try simp only [rgS]
              refine rgT 37 ?_
              try simp only [rgS]
              refine rgT 38 ?_
              try simp only [rgS]
              refine rgT 39 ?_
              try simp only [rgS]
              refine rgT 40 ?_
              try simp only [rgS, cc1]
              refine rgT 41 ?_
              try simp only [rgS]
              refine rgT 42 ?_
              try simp only [rgS]
              refine rgT 43 ?_
              try simp only [rgS]
              refine rgT 44 ?_
              try simp only [rgS]
              refine rgT 45 ?_
              try simp only [rgS]
              refine rgT 46 ?_
              try simp only [rgS]
              refine rgT 47 ?_
              try simp only [rgS]
              refine rgT 48 ?_
              try simp only [rgS]
              refine rgT 49 ?_
              try simp only [rgS]
              refine rgT 50 ?_
              try simp only [rgS]
              refine rgT 51 ?_
              try simp only [rgS]
              refine rgT 52 ?_
              try simp only [rgS]
              refine rgT 53 ?_
              try simp only [rgS]
              refine rgT 54 ?_
              try simp only [rgS]
              refine rgT 55 ?_
              try simp only [rgS, cc2]
              refine rgT 56 ?_
              try simp only [rgS]
              refine wpAnyH_done (by kernel_rfl) ?_ _
              clear hHeld
              go_wp2
              clear z0 u0 z1 u1 z2 u2 z3 u3
              go_loopw [8] (fun i wr => ∃ k : Nat, k ≤ x1 ∧ i = .int .i64 (k : Int) ∧ (∀ x, x < k → R1.scopes[x]? = R2.scopes[x]?) ∧ Below W.heap.size W wr) (fun i _ => x1 - (intOf i).toNat)
              case atStart => exact ⟨0, by omega, rfl, fun x hx => absurd hx (Nat.not_lt_zero _), below_drewN HBE.out _⟩
              case round =>
                obtain ⟨k, hk, rfl, hall, hbel⟩ := hrel
                have HAS := Lib.hid hall
                have HBS := Lib.hid hbel
                have z1 : wr.cell? ⟨g, o + j * 4 + 1, none⟩ = some (.slice A1 x1 c1) := (hbel.cell (p := ⟨g, _, none⟩) HGL.out.1).trans HK.out.2.1
                have u1 : wr.cell? ⟨g', o' + j * 4 + 1, none⟩ = some (.slice A2 x1 c2) := (hbel.cell (p := ⟨g', _, none⟩) HGL.out.2).trans HQK.out.2.1
                clear hall
                by_cases hks : k < x1
                · have s1 : k < R1.scopes.length := by rw [← HLN.out.1.1]; exact hks
                  have s2 : k < R2.scopes.length := by rw [← HLN.out.1.2]; exact hks
                  obtain ⟨h, r, rfl, _, hh, hcs⟩ := HS1.out (fun e => by rw [e] at s1; exact absurd s1 (Nat.not_lt_zero _))
                  obtain ⟨h', r', rfl, _, hh', hcs'⟩ := HS2.out (fun e => by rw [e] at s2; exact absurd s2 (Nat.not_lt_zero _))
                  obtain ⟨t1, ht1, _, l1⟩ := hcs k s1
                  obtain ⟨t2, ht2, _, l2⟩ := hcs' k s2
                  have m1 := (hbel.cell (p := ⟨h, r + k, none⟩) hh).trans l1
                  have m2 := (hbel.cell (p := ⟨h', r' + k, none⟩) hh').trans l2
                  have HE : Hid (R1.scopes[k]? = R2.scopes[k]? ↔ t1 = t2) := Lib.hid (by rw [ht1, ht2]; exact ⟨fun h => Option.some.inj h, fun h => by rw [h]⟩)
                  have k1 : (0 : Int) ≤ (k : Int) := by omega
                  have k2 : (k : Int) < (x1 : Int) := by omega
                  clear hcs hcs' ht1 ht2 l1 l2 hbel
                  by_cases he : t1 = t2
                  · have b4 := strs_beq he
                    have c4 : (t1.toList != t2.toList) = false := by rw [bne, b4]; rfl
                    have HEE := Lib.hid (HE.out.2 he)
                    clear he
                    go_wp2
                    go_quiet (fail)
                    go_wp2
                    go_roundw
                    case rel => exact ⟨k + 1, by omega, by go_num, fun x hx => by
                      rcases Nat.lt_or_ge x k with h | h
                      · exact HAS.out x h
                      · obtain rfl : x = k := by omega
                        exact HEE.out, below_drewN HBS.out _⟩
                    case measure => simp [intOf]; omega
                  · have b4 := strs_bne he
                    have c4 : (t1.toList != t2.toList) = true := by rw [bne, b4]; rfl
                    have HR : Hid (sameRs false l m = false) := Lib.hid (HFL.out (by
                      rw [HSR.out]
                      rintro ⟨_, _, h, _⟩
                      exact he (HE.out.1 (by rw [h]))))
                    clear he
                    go_wp2
                    go_quiet (fail)
                    go_wp2
                    go_ret
                    rw [HR.out]
                    exact ⟨rfl, below_drewN HBS.out _⟩
                · obtain rfl : k = x1 := by omega
                  have HSS : Hid (R1.scopes = R2.scopes) := Lib.hid (List.ext_getElem? fun x => by
                    rcases Nat.lt_or_ge x k with h | h
                    · exact HAS.out x h
                    · rw [List.getElem?_eq_none (by rw [← HLN.out.1.1]; exact h), List.getElem?_eq_none (by rw [← HLN.out.1.2]; exact h)])
                  have hge : ¬ (k : Int) < (k : Int) := by omega
                  clear hbel hks hk
                  go_wp2
                  clear z1 u1
                  go_loopw [9] (fun i wr => ∃ k : Nat, k ≤ x2 ∧ i = .int .i64 (k : Int) ∧ (∀ x (h1 : x < R1.whens.length) (h2 : x < R2.whens.length), x < k → sameE false R1.whens[x] R2.whens[x] = true) ∧ Below W.heap.size W wr) (fun i _ => x2 - (intOf i).toNat)
                  case atStart => exact ⟨0, by omega, rfl, fun x _ _ hx => absurd hx (Nat.not_lt_zero _), HBS.out⟩
                  case round =>
                   obtain ⟨k, hk, rfl, hall, hbel⟩ := hrel
                   have HAW := Lib.hid hall
                   have HBV := Lib.hid hbel
                   have z2 : wr.cell? ⟨g, o + j * 4 + 2, none⟩ = some (.slice D1 x2 d1) := (hbel.cell (p := ⟨g, _, none⟩) HGL.out.1).trans HK.out.2.2.1
                   have u2 : wr.cell? ⟨g', o' + j * 4 + 2, none⟩ = some (.slice D2 x2 d2) := (hbel.cell (p := ⟨g', _, none⟩) HGL.out.2).trans HQK.out.2.2.1
                   clear hall
                   by_cases hkw : k < x2
                   ·
                    have s1 : k < R1.whens.length := by rw [← HLN.out.2.1]; exact hkw
                    have s2 : k < R2.whens.length := by rw [← HLN.out.2.2]; exact hkw
                    obtain ⟨h, r, rfl, _, hh, hcs⟩ := HW1.out (fun e => by rw [e] at s1; exact absurd s1 (Nat.not_lt_zero _))
                    obtain ⟨h', r', rfl, _, hh', hcs'⟩ := HW2.out (fun e => by rw [e] at s2; exact absurd s2 (Nat.not_lt_zero _))
                    obtain ⟨ve1, hr1, hf1⟩ := hcs.at k s1
                    obtain ⟨ve2, hr2, hf2⟩ := hcs'.at k s2
                    have HCALL := Lib.hid (fun (w' : World) (hb : Below W.heap.size W w') => refSameE_any R1.whens[k] R2.whens[k] B ve1 ve2 false w' (Nat.le_trans HBW.out hb.size) (hr1.under HBW.out hb) (hr2.under HBW.out hb))
                    obtain ⟨N, n3, nc, rfl, hn3, l0, l1, l2, l3, l4⟩ := hr1.cells hf1
                    obtain ⟨V, v3, vc, rfl, hv3, r0, r1, r2, r3, r4⟩ := hr2.cells hf2
                    clear hn3 hv3
                    obtain ⟨n0, hn0⟩ : ∃ x, x = R1.whens[k].op := ⟨_, rfl⟩
                    obtain ⟨n1, hn1⟩ : ∃ x, x = R1.whens[k].text := ⟨_, rfl⟩
                    obtain ⟨n2, hn2⟩ : ∃ x, x = R1.whens[k].num := ⟨_, rfl⟩
                    obtain ⟨n4, hn4⟩ : ∃ x, x = R1.whens[k].pos := ⟨_, rfl⟩
                    obtain ⟨v0, hv0⟩ : ∃ x, x = R2.whens[k].op := ⟨_, rfl⟩
                    obtain ⟨v1, hv1⟩ : ∃ x, x = R2.whens[k].text := ⟨_, rfl⟩
                    obtain ⟨v2, hv2⟩ : ∃ x, x = R2.whens[k].num := ⟨_, rfl⟩
                    obtain ⟨v4, hv4⟩ : ∃ x, x = R2.whens[k].pos := ⟨_, rfl⟩
                    rw [← hn0, ← hn1, ← hn2, ← hn4, ← hv0, ← hv1, ← hv2, ← hv4] at HCALL
                    rw [← hn0] at l0
                    rw [← hn1] at l1
                    rw [← hn2] at l2
                    rw [← hn4] at l4
                    rw [← hv0] at r0
                    rw [← hv1] at r1
                    rw [← hv2] at r2
                    rw [← hv4] at r4
                    have m0 := (hbel.cell (p := ⟨h, r + k * 5, none⟩) hh).trans l0
                    have w0 := (hbel.cell (p := ⟨h', r' + k * 5, none⟩) hh').trans r0
                    have m1 := (hbel.cell (p := ⟨h, r + k * 5 + 1, none⟩) hh).trans l1
                    have w1 := (hbel.cell (p := ⟨h', r' + k * 5 + 1, none⟩) hh').trans r1
                    have m2 := (hbel.cell (p := ⟨h, r + k * 5 + 2, none⟩) hh).trans l2
                    have w2 := (hbel.cell (p := ⟨h', r' + k * 5 + 2, none⟩) hh').trans r2
                    have m3 := (hbel.cell (p := ⟨h, r + k * 5 + 3, none⟩) hh).trans l3
                    have w3 := (hbel.cell (p := ⟨h', r' + k * 5 + 3, none⟩) hh').trans r3
                    have m4 := (hbel.cell (p := ⟨h, r + k * 5 + 4, none⟩) hh).trans l4
                    have w4 := (hbel.cell (p := ⟨h', r' + k * 5 + 4, none⟩) hh').trans r4
                    obtain ⟨f, hff⟩ : ∃ f, f = sameE false R1.whens[k] R2.whens[k] := ⟨_, rfl⟩
                    rw [← hff] at HCALL
                    have HFF := Lib.hid hff
                    clear hcs hcs' hr1 hr2 hf1 hf2 hbel hff hn0 hn1 hn2 hn4 hv0 hv1 hv2 hv4 l0 l1 l2 l3 l4 r0 r1 r2 r3 r4
                    have k1 : (0 : Int) ≤ (k : Int) := by omega
                    have k2 : (k : Int) < (x2 : Int) := by omega
                    go_wp2_with fail
                    refine wp_region_held_drew (S := fun X' => X'.cell? ⟨g, o + j * 4 + 2, none⟩ = some (.slice (some ⟨h, r, none⟩) x2 d1) ∧ X'.cell? ⟨g', o' + j * 4 + 2, none⟩ = some (.slice (some ⟨h', r', none⟩) x2 d2) ∧ X'.cell? ⟨h, r + k * 5, none⟩ = some (.int .i64 n0) ∧ X'.cell? ⟨h, r + k * 5 + 1, none⟩ = some (.string n1) ∧ X'.cell? ⟨h, r + k * 5 + 2, none⟩ = some (.int .i64 n2) ∧ X'.cell? ⟨h, r + k * 5 + 3, none⟩ = some (.slice N n3 nc) ∧ X'.cell? ⟨h, r + k * 5 + 4, none⟩ = some (.int .i64 n4) ∧ X'.cell? ⟨h', r' + k * 5, none⟩ = some (.int .i64 v0) ∧ X'.cell? ⟨h', r' + k * 5 + 1, none⟩ = some (.string v1) ∧ X'.cell? ⟨h', r' + k * 5 + 2, none⟩ = some (.int .i64 v2) ∧ X'.cell? ⟨h', r' + k * 5 + 3, none⟩ = some (.slice V v3 vc) ∧ X'.cell? ⟨h', r' + k * 5 + 4, none⟩ = some (.int .i64 v4)) (by kernel_rfl) ⟨z2, u2, m0, m1, m2, m3, m4, w0, w1, w2, w3, w4⟩ (fun hHeld => ?_)
                    refine rgT 0 ?_
                    try simp only [rgS]
                    refine rgT 1 ?_
                    try simp only [rgS]
                    refine rgT 2 ?_
                    try simp only [rgS]
                    refine rgT 3 ?_
                    try simp only [rgS]
                    refine rgT 4 ?_
                    try simp only [rgS]
                    refine rgT 5 ?_
                    try simp only [rgS]
                    refine rgT 6 ?_
                    try simp only [rgS]
                    refine rgT 7 ?_
                    try simp only [rgS]
                    refine rgT 8 ?_
                    try simp only [rgS]
                    refine rgT 9 ?_
                    try simp only [rgS]
                    refine rgT 10 ?_
                    try simp only [rgS]
                    refine rgT 11 ?_
                    try simp only [rgS]
                    refine rgT 12 ?_
                    try simp only [rgS]
                    refine rgT 13 ?_
                    try simp only [rgS]
                    refine rgT 14 ?_
                    try simp only [rgS]
                    refine rgT 15 ?_
                    try simp only [rgS]
                    refine rgT 16 ?_
                    try simp only [rgS]
                    refine rgO 17 (fun K hK => ?_)
                    go_simp
                    (with_reducible refine (HCALL.out _ (HBV.out.drew)).mono ?_)
                    rintro e w' ⟨rfl, hb⟩
                    have hb : Below wr.heap.size wr w' := (Below.refl _ wr).drew.trans hb
                    refine hK.out _ _ ⟨(hb.cell (lt_of_cell z2)).trans z2, (hb.cell (lt_of_cell u2)).trans u2, (hb.cell (lt_of_cell m0)).trans m0, (hb.cell (lt_of_cell m1)).trans m1, (hb.cell (lt_of_cell m2)).trans m2, (hb.cell (lt_of_cell m3)).trans m3, (hb.cell (lt_of_cell m4)).trans m4, (hb.cell (lt_of_cell w0)).trans w0, (hb.cell (lt_of_cell w1)).trans w1, (hb.cell (lt_of_cell w2)).trans w2, (hb.cell (lt_of_cell w3)).trans w3, (hb.cell (lt_of_cell w4)).trans w4⟩ (fun hH1 => ?_)
                    have HB3 := Lib.hid ((HBV.out).trans (hb.mono HBV.out.size))
                    clear hK K hHeld hb
                    try simp only [rgS]
                    refine rgT 18 ?_
                    try simp only [rgS]
                    refine wpAnyH_done (by kernel_rfl) ?_ _
                    clear hH1
                    by_cases hf : f = true
                    · obtain rfl := hf
                      go_wp2
                      go_roundw
                      case rel => exact ⟨k + 1, by omega, by go_num, fun x h1 h2 hx => by
                        rcases Nat.lt_or_ge x k with h | h
                        · exact HAW.out x h1 h2 h
                        · obtain rfl : x = k := by omega
                          exact HFF.out.symm, HB3.out⟩
                      case measure => simp [intOf]; omega
                    · obtain rfl : f = false := by simpa using hf
                      have HR : Hid (sameRs false l m = false) := Lib.hid (HFL.out (by
                        rw [HSR.out]
                        rintro ⟨_, _, _, h⟩
                        rw [(sameEs_iff.1 h).2 k s1 s2] at HFF
                        exact absurd HFF.out (by decide)))
                      go_wp2
                      go_ret
                      rw [HR.out]
                      exact ⟨rfl, HB3.out⟩
                   · obtain rfl : k = x2 := by omega
                     have HRR : Hid (sameR false R1 R2 = true) := Lib.hid (HSR.out.2 ⟨by first | rfl | trivial, (fun h => by cases h), HSS.out, sameEs_iff.2 ⟨by rw [← HLN.out.2.1, ← HLN.out.2.2], fun x h1 h2 => HAW.out x h1 h2 (by rw [HLN.out.2.1]; exact h1)⟩⟩)
                     have hge2 : ¬ (k : Int) < (k : Int) := by omega
                     clear hbel hkw hk
                     go_wp2
                     go_roundw
                     case rel => exact ⟨j + 1, by omega, by go_num, HOK.out HRR.out, HBV.out⟩
                     case measure => simp [intOf]; omega
            · have cc2 : ((x2 : Int) != (y2 : Int)) = true := by rw [bne_iff_ne]; omega
              have c2' : ¬ (x2 : Int) = (y2 : Int) := by omega
              have HR : Hid (sameRs false l m = false) := Lib.hid (HFL.out (by rw [HSR.out]; rintro ⟨_, _, _, h⟩; have := (sameEs_iff.1 h).1; rw [← HLN.out.2.1, ← HLN.out.2.2] at this; exact e2 this))
              go_wp2_with fail
              refine wp_region_held_drew (S := fun X' => X'.cell? ⟨g, o + j * 4, none⟩ = some (.bool x0) ∧ X'.cell? ⟨g, o + j * 4 + 1, none⟩ = some (.slice A1 x1 c1) ∧ X'.cell? ⟨g, o + j * 4 + 2, none⟩ = some (.slice D1 x2 d1) ∧ X'.cell? ⟨g, o + j * 4 + 3, none⟩ = some (.int .i64 x3) ∧ X'.cell? ⟨g', o' + j * 4, none⟩ = some (.bool x0) ∧ X'.cell? ⟨g', o' + j * 4 + 1, none⟩ = some (.slice A2 x1 c2) ∧ X'.cell? ⟨g', o' + j * 4 + 2, none⟩ = some (.slice D2 y2 d2) ∧ X'.cell? ⟨g', o' + j * 4 + 3, none⟩ = some (.int .i64 y3)) (by kernel_rfl) ⟨z0, z1, z2, z3, u0, u1, u2, u3⟩ (fun hHeld => ?_)
              refine rgT 0 ?_
              try simp only [rgS]
              refine rgT 1 ?_
              try simp only [rgS]
              refine rgT 2 ?_
              try simp only [rgS]
              refine rgT 3 ?_
              try simp only [rgS]
              refine rgT 4 ?_
              try simp only [rgS]
              refine rgT 5 ?_
              try simp only [rgS]
              refine rgT 6 ?_
              try simp only [rgS]
              refine rgT 7 ?_
              try simp only [rgS]
              refine rgT 8 ?_
              try simp only [rgS]
              refine rgT 9 ?_
              try simp only [rgS]
              refine rgT 10 ?_
              try simp only [rgS, cc0]
              refine rgT 11 ?_
              try simp only [rgS]
              refine rgT 12 ?_
              try simp only [rgS]
              refine rgT 13 ?_
              try simp only [rgS]
              refine rgU 14 ?_
              try simp only [rgS]
              refine rgU 15 ?_
              try simp only [rgS]
              refine rgU 16 ?_
              try simp only [rgS]
              refine rgU 17 ?_
              try simp only [rgS]
              refine rgU 18 ?_
              try simp only [rgS]
              refine rgU 19 ?_
              try simp only [rgS]
              refine rgU 20 ?_
              try simp only [rgS]
              refine rgU 21 ?_
              try simp only [rgS]
              refine rgU 22 ?_
              try simp only [rgS]
              refine rgU 23 ?_
              try simp only [rgS]
              refine rgU 24 ?_
              try simp only [rgS]
              refine rgT 25 ?_
              try simp only [rgS]
              refine rgT 26 ?_
              try simp only [rgS]
              refine rgT 27 ?_
              try simp only [rgS]
              refine rgT 28 ?_
              try simp only [rgS]
              refine rgT 29 ?_
              try simp only [rgS]
              refine rgT 30 ?_
              try simp only [rgS]
              refine rgT 31 ?_
              try simp only [rgS]
              refine rgT 32 ?_
              try simp only [rgS]
              refine rgT 33 ?_
              try simp only [rgS]
              refine rgT 34 ?_
              try simp only [rgS]
              refine rgT 35 ?_
              try simp only [rgS]
              refine rgT 36 ?_
              try simp only [rgS]
              refine rgT 37 ?_
              try simp only [rgS]
              refine rgT 38 ?_
              try simp only [rgS]
              refine rgT 39 ?_
              try simp only [rgS]
              refine rgT 40 ?_
              try simp only [rgS, cc1]
              refine rgT 41 ?_
              try simp only [rgS]
              refine rgT 42 ?_
              try simp only [rgS]
              refine rgT 43 ?_
              try simp only [rgS]
              refine rgT 44 ?_
              try simp only [rgS]
              refine rgT 45 ?_
              try simp only [rgS]
              refine rgT 46 ?_
              try simp only [rgS]
              refine rgT 47 ?_
              try simp only [rgS]
              refine rgT 48 ?_
              try simp only [rgS]
              refine rgT 49 ?_
              try simp only [rgS]
              refine rgT 50 ?_
              try simp only [rgS]
              refine rgT 51 ?_
              try simp only [rgS]
              refine rgT 52 ?_
              try simp only [rgS]
              refine rgT 53 ?_
              try simp only [rgS]
              refine rgT 54 ?_
              try simp only [rgS]
              refine rgT 55 ?_
              try simp only [rgS, cc2]
              refine rgT 56 ?_
              try simp only [rgS]
              refine wpAnyH_done (by kernel_rfl) ?_ _
              clear hHeld
              go_wp2
              go_ret
              rw [HR.out]
              exact ⟨rfl, below_drewN HBE.out _⟩
          · have cc1 : ((x1 : Int) != (y1 : Int)) = true := by rw [bne_iff_ne]; omega
            have c1' : ¬ (x1 : Int) = (y1 : Int) := by omega
            have HR : Hid (sameRs false l m = false) := Lib.hid (HFL.out (by rw [HSR.out]; rintro ⟨_, _, h, _⟩; have := congrArg List.length h; rw [← HLN.out.1.1, ← HLN.out.1.2] at this; exact e1 this))
            go_wp2_with fail
            refine wp_region_held_drew (S := fun X' => X'.cell? ⟨g, o + j * 4, none⟩ = some (.bool x0) ∧ X'.cell? ⟨g, o + j * 4 + 1, none⟩ = some (.slice A1 x1 c1) ∧ X'.cell? ⟨g, o + j * 4 + 2, none⟩ = some (.slice D1 x2 d1) ∧ X'.cell? ⟨g, o + j * 4 + 3, none⟩ = some (.int .i64 x3) ∧ X'.cell? ⟨g', o' + j * 4, none⟩ = some (.bool x0) ∧ X'.cell? ⟨g', o' + j * 4 + 1, none⟩ = some (.slice A2 y1 c2) ∧ X'.cell? ⟨g', o' + j * 4 + 2, none⟩ = some (.slice D2 y2 d2) ∧ X'.cell? ⟨g', o' + j * 4 + 3, none⟩ = some (.int .i64 y3)) (by kernel_rfl) ⟨z0, z1, z2, z3, u0, u1, u2, u3⟩ (fun hHeld => ?_)
            refine rgT 0 ?_
            try simp only [rgS]
            refine rgT 1 ?_
            try simp only [rgS]
            refine rgT 2 ?_
            try simp only [rgS]
            refine rgT 3 ?_
            try simp only [rgS]
            refine rgT 4 ?_
            try simp only [rgS]
            refine rgT 5 ?_
            try simp only [rgS]
            refine rgT 6 ?_
            try simp only [rgS]
            refine rgT 7 ?_
            try simp only [rgS]
            refine rgT 8 ?_
            try simp only [rgS]
            refine rgT 9 ?_
            try simp only [rgS]
            refine rgT 10 ?_
            try simp only [rgS, cc0]
            refine rgT 11 ?_
            try simp only [rgS]
            refine rgT 12 ?_
            try simp only [rgS]
            refine rgT 13 ?_
            try simp only [rgS]
            refine rgU 14 ?_
            try simp only [rgS]
            refine rgU 15 ?_
            try simp only [rgS]
            refine rgU 16 ?_
            try simp only [rgS]
            refine rgU 17 ?_
            try simp only [rgS]
            refine rgU 18 ?_
            try simp only [rgS]
            refine rgU 19 ?_
            try simp only [rgS]
            refine rgU 20 ?_
            try simp only [rgS]
            refine rgU 21 ?_
            try simp only [rgS]
            refine rgU 22 ?_
            try simp only [rgS]
            refine rgU 23 ?_
            try simp only [rgS]
            refine rgU 24 ?_
            try simp only [rgS]
            refine rgT 25 ?_
            try simp only [rgS]
            refine rgT 26 ?_
            try simp only [rgS]
            refine rgT 27 ?_
            try simp only [rgS]
            refine rgT 28 ?_
            try simp only [rgS]
            refine rgT 29 ?_
            try simp only [rgS]
            refine rgT 30 ?_
            try simp only [rgS]
            refine rgT 31 ?_
            try simp only [rgS]
            refine rgT 32 ?_
            try simp only [rgS]
            refine rgT 33 ?_
            try simp only [rgS]
            refine rgT 34 ?_
            try simp only [rgS]
            refine rgT 35 ?_
            try simp only [rgS]
            refine rgT 36 ?_
            try simp only [rgS]
            refine rgT 37 ?_
            try simp only [rgS]
            refine rgT 38 ?_
            try simp only [rgS]
            refine rgT 39 ?_
            try simp only [rgS]
            refine rgT 40 ?_
            try simp only [rgS, cc1]
            refine rgT 41 ?_
            try simp only [rgS]
            refine rgT 42 ?_
            try simp only [rgS]
            refine rgU 43 ?_
            try simp only [rgS]
            refine rgU 44 ?_
            try simp only [rgS]
            refine rgU 45 ?_
            try simp only [rgS]
            refine rgU 46 ?_
            try simp only [rgS]
            refine rgU 47 ?_
            try simp only [rgS]
            refine rgU 48 ?_
            try simp only [rgS]
            refine rgU 49 ?_
            try simp only [rgS]
            refine rgU 50 ?_
            try simp only [rgS]
            refine rgU 51 ?_
            try simp only [rgS]
            refine rgU 52 ?_
            try simp only [rgS]
            refine rgU 53 ?_
            try simp only [rgS]
            refine rgU 54 ?_
            try simp only [rgS]
            refine rgU 55 ?_
            try simp only [rgS]
            refine rgT 56 ?_
            try simp only [rgS]
            refine wpAnyH_done (by kernel_rfl) ?_ _
            clear hHeld
            go_wp2
            go_ret
            rw [HR.out]
            exact ⟨rfl, below_drewN HBE.out _⟩
        · obtain ⟨rfl, rfl⟩ | ⟨rfl, rfl⟩ : (x0 = true ∧ y0 = false) ∨ (x0 = false ∧ y0 = true) := by cases x0 <;> cases y0 <;> simp_all
          · have cc0 : (true != false) = true := rfl
            have HR : Hid (sameRs false l m = false) := Lib.hid (HFL.out (by rw [HSR.out]; rintro ⟨h, _⟩; exact e0 h))
            go_wp2_with fail
            refine wp_region_held_drew (S := fun X' => X'.cell? ⟨g, o + j * 4, none⟩ = some (.bool true) ∧ X'.cell? ⟨g, o + j * 4 + 1, none⟩ = some (.slice A1 x1 c1) ∧ X'.cell? ⟨g, o + j * 4 + 2, none⟩ = some (.slice D1 x2 d1) ∧ X'.cell? ⟨g, o + j * 4 + 3, none⟩ = some (.int .i64 x3) ∧ X'.cell? ⟨g', o' + j * 4, none⟩ = some (.bool false) ∧ X'.cell? ⟨g', o' + j * 4 + 1, none⟩ = some (.slice A2 y1 c2) ∧ X'.cell? ⟨g', o' + j * 4 + 2, none⟩ = some (.slice D2 y2 d2) ∧ X'.cell? ⟨g', o' + j * 4 + 3, none⟩ = some (.int .i64 y3)) (by kernel_rfl) ⟨z0, z1, z2, z3, u0, u1, u2, u3⟩ (fun hHeld => ?_)
            refine rgT 0 ?_
            try simp only [rgS]
            refine rgT 1 ?_
            try simp only [rgS]
            refine rgT 2 ?_
            try simp only [rgS]
            refine rgT 3 ?_
            try simp only [rgS]
            refine rgT 4 ?_
            try simp only [rgS]
            refine rgT 5 ?_
            try simp only [rgS]
            refine rgT 6 ?_
            try simp only [rgS]
            refine rgT 7 ?_
            try simp only [rgS]
            refine rgT 8 ?_
            try simp only [rgS]
            refine rgT 9 ?_
            try simp only [rgS]
            refine rgT 10 ?_
            try simp only [rgS, cc0]
            refine rgT 11 ?_
            try simp only [rgS]
            refine rgU 12 ?_
            try simp only [rgS]
            refine rgU 13 ?_
            try simp only [rgS]
            refine rgU 14 ?_
            try simp only [rgS]
            refine rgU 15 ?_
            try simp only [rgS]
            refine rgU 16 ?_
            try simp only [rgS]
            refine rgU 17 ?_
            try simp only [rgS]
            refine rgU 18 ?_
            try simp only [rgS]
            refine rgU 19 ?_
            try simp only [rgS]
            refine rgU 20 ?_
            try simp only [rgS]
            refine rgU 21 ?_
            try simp only [rgS]
            refine rgU 22 ?_
            try simp only [rgS]
            refine rgU 23 ?_
            try simp only [rgS]
            refine rgU 24 ?_
            try simp only [rgS]
            refine rgU 25 ?_
            try simp only [rgS]
            refine rgT 26 ?_
            try simp only [rgS]
            refine rgT 27 ?_
            try simp only [rgS]
            refine rgU 28 ?_
            try simp only [rgS]
            refine rgU 29 ?_
            try simp only [rgS]
            refine rgU 30 ?_
            try simp only [rgS]
            refine rgU 31 ?_
            try simp only [rgS]
            refine rgU 32 ?_
            try simp only [rgS]
            refine rgU 33 ?_
            try simp only [rgS]
            refine rgU 34 ?_
            try simp only [rgS]
            refine rgU 35 ?_
            try simp only [rgS]
            refine rgU 36 ?_
            try simp only [rgS]
            refine rgU 37 ?_
            try simp only [rgS]
            refine rgU 38 ?_
            try simp only [rgS]
            refine rgU 39 ?_
            try simp only [rgS]
            refine rgU 40 ?_
            try simp only [rgS]
            refine rgT 41 ?_
            try simp only [rgS]
            refine rgT 42 ?_
            try simp only [rgS]
            refine rgU 43 ?_
            try simp only [rgS]
            refine rgU 44 ?_
            try simp only [rgS]
            refine rgU 45 ?_
            try simp only [rgS]
            refine rgU 46 ?_
            try simp only [rgS]
            refine rgU 47 ?_
            try simp only [rgS]
            refine rgU 48 ?_
            try simp only [rgS]
            refine rgU 49 ?_
            try simp only [rgS]
            refine rgU 50 ?_
            try simp only [rgS]
            refine rgU 51 ?_
            try simp only [rgS]
            refine rgU 52 ?_
            try simp only [rgS]
            refine rgU 53 ?_
            try simp only [rgS]
            refine rgU 54 ?_
            try simp only [rgS]
            refine rgU 55 ?_
            try simp only [rgS]
            refine rgT 56 ?_
            try simp only [rgS]
            refine wpAnyH_done (by kernel_rfl) ?_ _
            clear hHeld
            go_wp2
            go_ret
            rw [HR.out]
            exact ⟨rfl, below_drewN HBE.out _⟩
          · have cc0 : (false != true) = true := rfl
            have HR : Hid (sameRs false l m = false) := Lib.hid (HFL.out (by rw [HSR.out]; rintro ⟨h, _⟩; exact e0 h))
            go_wp2_with fail
            refine wp_region_held_drew (S := fun X' => X'.cell? ⟨g, o + j * 4, none⟩ = some (.bool false) ∧ X'.cell? ⟨g, o + j * 4 + 1, none⟩ = some (.slice A1 x1 c1) ∧ X'.cell? ⟨g, o + j * 4 + 2, none⟩ = some (.slice D1 x2 d1) ∧ X'.cell? ⟨g, o + j * 4 + 3, none⟩ = some (.int .i64 x3) ∧ X'.cell? ⟨g', o' + j * 4, none⟩ = some (.bool true) ∧ X'.cell? ⟨g', o' + j * 4 + 1, none⟩ = some (.slice A2 y1 c2) ∧ X'.cell? ⟨g', o' + j * 4 + 2, none⟩ = some (.slice D2 y2 d2) ∧ X'.cell? ⟨g', o' + j * 4 + 3, none⟩ = some (.int .i64 y3)) (by kernel_rfl) ⟨z0, z1, z2, z3, u0, u1, u2, u3⟩ (fun hHeld => ?_)
            refine rgT 0 ?_
            try simp only [rgS]
            refine rgT 1 ?_
            try simp only [rgS]
            refine rgT 2 ?_
            try simp only [rgS]
            refine rgT 3 ?_
            try simp only [rgS]
            refine rgT 4 ?_
            try simp only [rgS]
            refine rgT 5 ?_
            try simp only [rgS]
            refine rgT 6 ?_
            try simp only [rgS]
            refine rgT 7 ?_
            try simp only [rgS]
            refine rgT 8 ?_
            try simp only [rgS]
            refine rgT 9 ?_
            try simp only [rgS]
            refine rgT 10 ?_
            try simp only [rgS, cc0]
            refine rgT 11 ?_
            try simp only [rgS]
            refine rgU 12 ?_
            try simp only [rgS]
            refine rgU 13 ?_
            try simp only [rgS]
            refine rgU 14 ?_
            try simp only [rgS]
            refine rgU 15 ?_
            try simp only [rgS]
            refine rgU 16 ?_
            try simp only [rgS]
            refine rgU 17 ?_
            try simp only [rgS]
            refine rgU 18 ?_
            try simp only [rgS]
            refine rgU 19 ?_
            try simp only [rgS]
            refine rgU 20 ?_
            try simp only [rgS]
            refine rgU 21 ?_
            try simp only [rgS]
            refine rgU 22 ?_
            try simp only [rgS]
            refine rgU 23 ?_
            try simp only [rgS]
            refine rgU 24 ?_
            try simp only [rgS]
            refine rgU 25 ?_
            try simp only [rgS]
            refine rgT 26 ?_
            try simp only [rgS]
            refine rgT 27 ?_
            try simp only [rgS]
            refine rgU 28 ?_
            try simp only [rgS]
            refine rgU 29 ?_
            try simp only [rgS]
            refine rgU 30 ?_
            try simp only [rgS]
            refine rgU 31 ?_
            try simp only [rgS]
            refine rgU 32 ?_
            try simp only [rgS]
            refine rgU 33 ?_
            try simp only [rgS]
            refine rgU 34 ?_
            try simp only [rgS]
            refine rgU 35 ?_
            try simp only [rgS]
            refine rgU 36 ?_
            try simp only [rgS]
            refine rgU 37 ?_
            try simp only [rgS]
            refine rgU 38 ?_
            try simp only [rgS]
            refine rgU 39 ?_
            try simp only [rgS]
            refine rgU 40 ?_
            try simp only [rgS]
            refine rgT 41 ?_
            try simp only [rgS]
            refine rgT 42 ?_
            try simp only [rgS]
            refine rgU 43 ?_
            try simp only [rgS]
            refine rgU 44 ?_
            try simp only [rgS]
            refine rgU 45 ?_
            try simp only [rgS]
            refine rgU 46 ?_
            try simp only [rgS]
            refine rgU 47 ?_
            try simp only [rgS]
            refine rgU 48 ?_
            try simp only [rgS]
            refine rgU 49 ?_
            try simp only [rgS]
            refine rgU 50 ?_
            try simp only [rgS]
            refine rgU 51 ?_
            try simp only [rgS]
            refine rgU 52 ?_
            try simp only [rgS]
            refine rgU 53 ?_
            try simp only [rgS]
            refine rgU 54 ?_
            try simp only [rgS]
            refine rgU 55 ?_
            try simp only [rgS]
            refine rgT 56 ?_
            try simp only [rgS]
            refine wpAnyH_done (by kernel_rfl) ?_ _
            clear hHeld
            go_wp2
            go_ret
            rw [HR.out]
            exact ⟨rfl, below_drewN HBE.out _⟩
      · obtain rfl : j = p := by omega
        have HR : Hid (sameRs false l m = true) := Lib.hid (by
          rw [HSAME.out]
          exact ⟨by rw [← HP.out, ← HQ.out], fun x h1 h2 => HA.out x h1 h2 (by rw [HP.out]; exact h1)⟩)
        have hge : ¬ (j : Int) < (j : Int) := by omega
        clear hlt hbel
        go_wp2
        go_ret
        rw [HR.out]
        exact ⟨rfl, HBE.out⟩
  · have hE : ((p : Int) != (q : Int)) = true := by rw [bne_iff_ne]; omega
    have hE' : ¬ (p : Int) = (q : Int) := by omega
    have HR : Hid (sameRs false l m = false) := Lib.hid (by
      rw [← Bool.not_eq_true, HSAME.out]
      rintro ⟨h, _⟩
      exact hpq (by rw [HP.out, HQ.out]; exact h))
    go_enter Tryz.func14, Tryz.ntmps14
    go_wp2
    go_ret
    rw [HR.out]
    exact ⟨rfl, Below.refl _ _⟩
end Go.Proofs.YtcjfealalokjaaaGreatDoor
namespace Go.Proofs.YtcjfealalokjaaaGreatDoor
open Go Go.RowKit
set_option maxRecDepth 100000 in
set_option maxHeartbeats 8000000 in
theorem refSame_true {l m : List RuleM} {B : Nat} {va vb : Value} {W : World} (hB : B ≤ W.heap.size) (ha : RepP W (fun k => k < B) l va) (hb : RepP W (fun k => k < B) m vb) :
    Calls Tryz.prog 14 #[va, vb, .bool true] W fun e w' => e = .returned (.bool (sameRs true l m)) ∧ Below W.heap.size W w' := by
  obtain ⟨A, c, rfl, hl, hc⟩ := ha
  obtain ⟨A', c', rfl, hl', hc'⟩ := hb
  have HSAME : Hid (sameRs true l m = true ↔ l.length = m.length ∧ ∀ i (h1 : i < l.length) (h2 : i < m.length), sameR true l[i] m[i] = true) := Lib.hid sameRs_iff
  have HC := Lib.hid hc
  have HC' := Lib.hid hc'
  have HBW := Lib.hid hB
  obtain ⟨p, hp⟩ : ∃ k, k = l.length := ⟨_, rfl⟩
  obtain ⟨q, hq⟩ : ∃ k, k = m.length := ⟨_, rfl⟩
  rw [← hp] at hl ⊢
  rw [← hq] at hl' ⊢
  have HP := Lib.hid hp
  have HQ := Lib.hid hq
  clear hc hc' hp hq hB
  by_cases hpq : p = q
  · subst hpq
    have hE : ((p : Int) != (p : Int)) = false := by simp
    go_enter Tryz.func14, Tryz.ntmps14
    go_wp2
    go_loopw [7] (fun i wr => ∃ j : Nat, j ≤ p ∧ i = .int .i64 (j : Int) ∧ (∀ x (h1 : x < l.length) (h2 : x < m.length), x < j → sameR true l[x] m[x] = true) ∧ Below W.heap.size W wr) (fun i _ => p - (intOf i).toNat)
    case atStart => exact ⟨0, by omega, rfl, fun x _ _ hx => absurd hx (Nat.not_lt_zero _), Below.refl _ _⟩
    case round =>
      obtain ⟨j, hj, rfl, hall, hbel⟩ := hrel
      have HA := Lib.hid hall
      have HBE := Lib.hid hbel
      clear hall
      by_cases hlt : j < p
      · have hj1 : j < l.length := by rw [← HP.out]; exact hlt
        have hj2 : j < m.length := by rw [← HQ.out]; exact hlt
        obtain ⟨g, o, rfl, _, hg, hrep⟩ := HC.out (fun e => by rw [e] at hj1; exact absurd hj1 (Nat.not_lt_zero _))
        obtain ⟨g', o', rfl, _, hg', hrep'⟩ := HC'.out (fun e => by rw [e] at hj2; exact absurd hj2 (Nat.not_lt_zero _))
        obtain ⟨a0, a1, a2, a3, hr1, k0, k1, k2, k3⟩ := hrep j hj1
        obtain ⟨b0, b1, b2, b3, hr2, q0, q1, q2, q3⟩ := hrep' j hj2
        obtain ⟨vs1, vw1, e1, ⟨A1, c1, rfl, hn1, hsc1⟩, ⟨D1, d1, rfl, hw1, hwc1⟩⟩ := hr1
        obtain ⟨vs2, vw2, e2, ⟨A2, c2, rfl, hn2, hsc2⟩, ⟨D2, d2, rfl, hw2, hwc2⟩⟩ := hr2
        simp only [Value.agg.injEq, Array.mk.injEq, List.cons.injEq, and_true] at e1 e2
        obtain ⟨rfl, rfl, rfl, rfl⟩ := e1
        obtain ⟨rfl, rfl, rfl, rfl⟩ := e2
        have HFL : Hid (¬ sameR true l[j] m[j] = true → sameRs true l m = false) := Lib.hid (fun hn => by
          rw [← Bool.not_eq_true, HSAME.out]
          rintro ⟨_, h⟩
          exact hn (h j hj1 hj2))
        have HOK : Hid (sameR true l[j] m[j] = true → ∀ x (h1 : x < l.length) (h2 : x < m.length), x < j + 1 → sameR true l[x] m[x] = true) := Lib.hid (fun hs x h1 h2 hx => by
          rcases Nat.lt_or_ge x j with h | h
          · exact HA.out x h1 h2 h
          · obtain rfl : x = j := by omega
            exact hs)
        obtain ⟨R1, hR1⟩ : ∃ r, r = l[j] := ⟨_, rfl⟩
        obtain ⟨R2, hR2⟩ : ∃ r, r = m[j] := ⟨_, rfl⟩
        rw [← hR1] at k0 k1 k2 k3 hsc1 hwc1 hn1 hw1
        rw [← hR2] at q0 q1 q2 q3 hsc2 hwc2 hn2 hw2
        rw [← hR1, ← hR2] at HFL HOK
        clear hR1 hR2
        have HS1 := Lib.hid hsc1
        have HS2 := Lib.hid hsc2
        have HW1 := Lib.hid hwc1
        have HW2 := Lib.hid hwc2
        obtain ⟨x0, hx0⟩ : ∃ x, x = R1.deny := ⟨_, rfl⟩
        obtain ⟨x1, hx1⟩ : ∃ x, x = R1.scopes.length := ⟨_, rfl⟩
        obtain ⟨x2, hx2⟩ : ∃ x, x = R1.whens.length := ⟨_, rfl⟩
        obtain ⟨x3, hx3⟩ : ∃ x, x = R1.pos := ⟨_, rfl⟩
        obtain ⟨y0, hy0⟩ : ∃ x, x = R2.deny := ⟨_, rfl⟩
        obtain ⟨y1, hy1⟩ : ∃ x, x = R2.scopes.length := ⟨_, rfl⟩
        obtain ⟨y2, hy2⟩ : ∃ x, x = R2.whens.length := ⟨_, rfl⟩
        obtain ⟨y3, hy3⟩ : ∃ x, x = R2.pos := ⟨_, rfl⟩
        rw [← hx0] at k0
        rw [← hx1] at k1 hn1
        rw [← hx2] at k2 hw1
        rw [← hx3] at k3
        rw [← hy0] at q0
        rw [← hy1] at q1 hn2
        rw [← hy2] at q2 hw2
        rw [← hy3] at q3
        have HSR : Hid (sameR true R1 R2 = true ↔ x0 = y0 ∧ (true = true → x3 = y3) ∧ R1.scopes = R2.scopes ∧ sameEs true R1.whens R2.whens = true) := Lib.hid (by rw [sameR_iff, hx0, hy0, hx3, hy3])
        have HLN : Hid ((x1 = R1.scopes.length ∧ y1 = R2.scopes.length) ∧ (x2 = R1.whens.length ∧ y2 = R2.whens.length)) := Lib.hid ⟨⟨hx1, hy1⟩, ⟨hx2, hy2⟩⟩
        have HK := Lib.hid (And.intro k0 (And.intro k1 (And.intro k2 (And.intro k3 trivial))))
        have HQK := Lib.hid (And.intro q0 (And.intro q1 (And.intro q2 (And.intro q3 trivial))))
        have HGL := Lib.hid (And.intro hg hg')
        have z0 : wr.cell? ⟨g, o + j * 4, none⟩ = some (.bool x0) := (hbel.cell (p := ⟨g, _, none⟩) HGL.out.1).trans HK.out.1
        have u0 : wr.cell? ⟨g', o' + j * 4, none⟩ = some (.bool y0) := (hbel.cell (p := ⟨g', _, none⟩) HGL.out.2).trans HQK.out.1
        have z1 : wr.cell? ⟨g, o + j * 4 + 1, none⟩ = some (.slice A1 x1 c1) := (hbel.cell (p := ⟨g, _, none⟩) HGL.out.1).trans HK.out.2.1
        have u1 : wr.cell? ⟨g', o' + j * 4 + 1, none⟩ = some (.slice A2 y1 c2) := (hbel.cell (p := ⟨g', _, none⟩) HGL.out.2).trans HQK.out.2.1
        have z2 : wr.cell? ⟨g, o + j * 4 + 2, none⟩ = some (.slice D1 x2 d1) := (hbel.cell (p := ⟨g, _, none⟩) HGL.out.1).trans HK.out.2.2.1
        have u2 : wr.cell? ⟨g', o' + j * 4 + 2, none⟩ = some (.slice D2 y2 d2) := (hbel.cell (p := ⟨g', _, none⟩) HGL.out.2).trans HQK.out.2.2.1
        have z3 : wr.cell? ⟨g, o + j * 4 + 3, none⟩ = some (.int .i64 x3) := (hbel.cell (p := ⟨g, _, none⟩) HGL.out.1).trans HK.out.2.2.2.1
        have u3 : wr.cell? ⟨g', o' + j * 4 + 3, none⟩ = some (.int .i64 y3) := (hbel.cell (p := ⟨g', _, none⟩) HGL.out.2).trans HQK.out.2.2.2.1
        have i1 : (0 : Int) ≤ (j : Int) := by omega
        have i2 : (j : Int) < (p : Int) := by omega
        clear hrep hrep' hsc1 hsc2 hwc1 hwc2 hx0 hx1 hx2 hx3 hy0 hy1 hy2 hy3 k0 k1 k2 k3 q0 q1 q2 q3 hbel hj1 hj2
        by_cases e0 : x0 = y0
        · subst e0
          have cc0 : (x0 != x0) = false := by simp
          by_cases e3 : x3 = y3
          · subst e3
            have cc3 : (x3 != x3) = false := by simp
            by_cases e1 : x1 = y1
            · subst e1
              have cc1 : ((x1 : Int) != (x1 : Int)) = false := by simp
              by_cases e2 : x2 = y2
              · subst e2
                have cc2 : ((x2 : Int) != (x2 : Int)) = false := by simp
                go_wp2_with fail
                refine wp_region_held_drew (S := fun X' => X'.cell? ⟨g, o + j * 4, none⟩ = some (.bool x0) ∧ X'.cell? ⟨g, o + j * 4 + 1, none⟩ = some (.slice A1 x1 c1) ∧ X'.cell? ⟨g, o + j * 4 + 2, none⟩ = some (.slice D1 x2 d1) ∧ X'.cell? ⟨g, o + j * 4 + 3, none⟩ = some (.int .i64 x3) ∧ X'.cell? ⟨g', o' + j * 4, none⟩ = some (.bool x0) ∧ X'.cell? ⟨g', o' + j * 4 + 1, none⟩ = some (.slice A2 x1 c2) ∧ X'.cell? ⟨g', o' + j * 4 + 2, none⟩ = some (.slice D2 x2 d2) ∧ X'.cell? ⟨g', o' + j * 4 + 3, none⟩ = some (.int .i64 x3)) (by kernel_rfl) ⟨z0, z1, z2, z3, u0, u1, u2, u3⟩ (fun hHeld => ?_)
                refine rgT 0 ?_
                try simp only [rgS]
                refine rgT 1 ?_
                try simp only [rgS]
                refine rgT 2 ?_
                try simp only [rgS]
                refine rgT 3 ?_
                try simp only [rgS]
                refine rgT 4 ?_
                try simp only [rgS]
                refine rgT 5 ?_
                try simp only [rgS]
                refine rgT 6 ?_
                try simp only [rgS]
                refine rgT 7 ?_
                try simp only [rgS]
                refine rgT 8 ?_
                try simp only [rgS]
                refine rgT 9 ?_
                try simp only [rgS]
                refine rgT 10 ?_
                try simp only [rgS, cc0]
                refine rgT 11 ?_
                try simp only [rgS]
                refine rgT 12 ?_
                try simp only [rgS]
                refine rgT 13 ?_
                try simp only [rgS]
                refine rgT 14 ?_
                try simp only [rgS]
                refine rgT 15 ?_
                try simp only [rgS]
                refine rgT 16 ?_
                try simp only [rgS]
                refine rgT 17 ?_
                try simp only [rgS]
                refine rgT 18 ?_
                try simp only [rgS]
                refine rgT 19 ?_
                try simp only [rgS]
                refine rgT 20 ?_
                try simp only [rgS]
                refine rgT 21 ?_
                try simp only [rgS]
                refine rgT 22 ?_
                try simp only [rgS]
                refine rgT 23 ?_
                try simp only [rgS]
                refine rgT 24 ?_
                try simp only [rgS, cc3]
                refine rgT 25 ?_
                try simp only [rgS]
                refine rgT 26 ?_
                try simp only [rgS]
                refine rgT 27 ?_
                try simp only [rgS]
                refine rgT 28 ?_
                try simp only [rgS]
                refine rgT 29 ?_
                try simp only [rgS]
                refine rgT 30 ?_
                try simp only [rgS]
                refine rgT 31 ?_
                try simp only [rgS]
                refine rgT 32 ?_
                try simp only [rgS]
                refine rgT 33 ?_
                try simp only [rgS]
                refine rgT 34 ?_
                try simp only [rgS]
                refine rgT 35 ?_
                try simp only [rgS]
                refine rgT 36 ?_
                try simp only [rgS]
                refine rgT 37 ?_
                try simp only [rgS]
                refine rgT 38 ?_
                try simp only [rgS]
                refine rgT 39 ?_
                try simp only [rgS]
                refine rgT 40 ?_
                try simp only [rgS, cc1]
                refine rgT 41 ?_
                try simp only [rgS]
                refine rgT 42 ?_
                try simp only [rgS]
                refine rgT 43 ?_
                try simp only [rgS]
                refine rgT 44 ?_
                try simp only [rgS]
                refine rgT 45 ?_
                try simp only [rgS]
                refine rgT 46 ?_
                try simp only [rgS]
                refine rgT 47 ?_
                try simp only [rgS]
                refine rgT 48 ?_
                try simp only [rgS]
                refine rgT 49 ?_
                try simp only [rgS]
                refine rgT 50 ?_
                try simp only [rgS]
                refine rgT 51 ?_
                try simp only [rgS]
                refine rgT 52 ?_
                try simp only [rgS]
                refine rgT 53 ?_
                try simp only [rgS]
                refine rgT 54 ?_
                try simp only [rgS]
                refine rgT 55 ?_
                try simp only [rgS, cc2]
                refine rgT 56 ?_
                try simp only [rgS]
                refine wpAnyH_done (by kernel_rfl) ?_ _
                clear hHeld
                go_wp2
                clear z0 u0 z1 u1 z2 u2 z3 u3
                go_loopw [8] (fun i wr => ∃ k : Nat, k ≤ x1 ∧ i = .int .i64 (k : Int) ∧ (∀ x, x < k → R1.scopes[x]? = R2.scopes[x]?) ∧ Below W.heap.size W wr) (fun i _ => x1 - (intOf i).toNat)
                case atStart => exact ⟨0, by omega, rfl, fun x hx => absurd hx (Nat.not_lt_zero _), below_drewN HBE.out _⟩
                case round =>
                  obtain ⟨k, hk, rfl, hall, hbel⟩ := hrel
                  have HAS := Lib.hid hall
                  have HBS := Lib.hid hbel
                  have z1 : wr.cell? ⟨g, o + j * 4 + 1, none⟩ = some (.slice A1 x1 c1) := (hbel.cell (p := ⟨g, _, none⟩) HGL.out.1).trans HK.out.2.1
                  have u1 : wr.cell? ⟨g', o' + j * 4 + 1, none⟩ = some (.slice A2 x1 c2) := (hbel.cell (p := ⟨g', _, none⟩) HGL.out.2).trans HQK.out.2.1
                  clear hall
                  by_cases hks : k < x1
                  · have s1 : k < R1.scopes.length := by rw [← HLN.out.1.1]; exact hks
                    have s2 : k < R2.scopes.length := by rw [← HLN.out.1.2]; exact hks
                    obtain ⟨h, r, rfl, _, hh, hcs⟩ := HS1.out (fun e => by rw [e] at s1; exact absurd s1 (Nat.not_lt_zero _))
                    obtain ⟨h', r', rfl, _, hh', hcs'⟩ := HS2.out (fun e => by rw [e] at s2; exact absurd s2 (Nat.not_lt_zero _))
                    obtain ⟨t1, ht1, _, l1⟩ := hcs k s1
                    obtain ⟨t2, ht2, _, l2⟩ := hcs' k s2
                    have m1 := (hbel.cell (p := ⟨h, r + k, none⟩) hh).trans l1
                    have m2 := (hbel.cell (p := ⟨h', r' + k, none⟩) hh').trans l2
                    have HE : Hid (R1.scopes[k]? = R2.scopes[k]? ↔ t1 = t2) := Lib.hid (by rw [ht1, ht2]; exact ⟨fun h => Option.some.inj h, fun h => by rw [h]⟩)
                    have k1 : (0 : Int) ≤ (k : Int) := by omega
                    have k2 : (k : Int) < (x1 : Int) := by omega
                    clear hcs hcs' ht1 ht2 l1 l2 hbel
                    by_cases he : t1 = t2
                    · have b4 := strs_beq he
                      have c4 : (t1.toList != t2.toList) = false := by rw [bne, b4]; rfl
                      have HEE := Lib.hid (HE.out.2 he)
                      clear he
                      go_wp2
                      go_quiet (fail)
                      go_wp2
                      go_roundw
                      case rel => exact ⟨k + 1, by omega, by go_num, fun x hx => by
                        rcases Nat.lt_or_ge x k with h | h
                        · exact HAS.out x h
                        · obtain rfl : x = k := by omega
                          exact HEE.out, below_drewN HBS.out _⟩
                      case measure => simp [intOf]; omega
                    · have b4 := strs_bne he
                      have c4 : (t1.toList != t2.toList) = true := by rw [bne, b4]; rfl
                      have HR : Hid (sameRs true l m = false) := Lib.hid (HFL.out (by
                        rw [HSR.out]
                        rintro ⟨_, _, h, _⟩
                        exact he (HE.out.1 (by rw [h]))))
                      clear he
                      go_wp2
                      go_quiet (fail)
                      go_wp2
                      go_ret
                      rw [HR.out]
                      exact ⟨rfl, below_drewN HBS.out _⟩
                  · obtain rfl : k = x1 := by omega
                    have HSS : Hid (R1.scopes = R2.scopes) := Lib.hid (List.ext_getElem? fun x => by
                      rcases Nat.lt_or_ge x k with h | h
                      · exact HAS.out x h
                      · rw [List.getElem?_eq_none (by rw [← HLN.out.1.1]; exact h), List.getElem?_eq_none (by rw [← HLN.out.1.2]; exact h)])
                    have hge : ¬ (k : Int) < (k : Int) := by omega
                    clear hbel hks hk
                    go_wp2
                    clear z1 u1
                    go_loopw [9] (fun i wr => ∃ k : Nat, k ≤ x2 ∧ i = .int .i64 (k : Int) ∧ (∀ x (h1 : x < R1.whens.length) (h2 : x < R2.whens.length), x < k → sameE true R1.whens[x] R2.whens[x] = true) ∧ Below W.heap.size W wr) (fun i _ => x2 - (intOf i).toNat)
                    case atStart => exact ⟨0, by omega, rfl, fun x _ _ hx => absurd hx (Nat.not_lt_zero _), HBS.out⟩
                    case round =>
                     obtain ⟨k, hk, rfl, hall, hbel⟩ := hrel
                     have HAW := Lib.hid hall
                     have HBV := Lib.hid hbel
                     have z2 : wr.cell? ⟨g, o + j * 4 + 2, none⟩ = some (.slice D1 x2 d1) := (hbel.cell (p := ⟨g, _, none⟩) HGL.out.1).trans HK.out.2.2.1
                     have u2 : wr.cell? ⟨g', o' + j * 4 + 2, none⟩ = some (.slice D2 x2 d2) := (hbel.cell (p := ⟨g', _, none⟩) HGL.out.2).trans HQK.out.2.2.1
                     clear hall
                     by_cases hkw : k < x2
                     ·
                      have s1 : k < R1.whens.length := by rw [← HLN.out.2.1]; exact hkw
                      have s2 : k < R2.whens.length := by rw [← HLN.out.2.2]; exact hkw
                      obtain ⟨h, r, rfl, _, hh, hcs⟩ := HW1.out (fun e => by rw [e] at s1; exact absurd s1 (Nat.not_lt_zero _))
                      obtain ⟨h', r', rfl, _, hh', hcs'⟩ := HW2.out (fun e => by rw [e] at s2; exact absurd s2 (Nat.not_lt_zero _))
                      obtain ⟨ve1, hr1, hf1⟩ := hcs.at k s1
                      obtain ⟨ve2, hr2, hf2⟩ := hcs'.at k s2
                      have HCALL := Lib.hid (fun (w' : World) (hb : Below W.heap.size W w') => refSameE_any R1.whens[k] R2.whens[k] B ve1 ve2 true w' (Nat.le_trans HBW.out hb.size) (hr1.under HBW.out hb) (hr2.under HBW.out hb))
                      obtain ⟨N, n3, nc, rfl, hn3, l0, l1, l2, l3, l4⟩ := hr1.cells hf1
                      obtain ⟨V, v3, vc, rfl, hv3, r0, r1, r2, r3, r4⟩ := hr2.cells hf2
                      clear hn3 hv3
                      obtain ⟨n0, hn0⟩ : ∃ x, x = R1.whens[k].op := ⟨_, rfl⟩
                      obtain ⟨n1, hn1⟩ : ∃ x, x = R1.whens[k].text := ⟨_, rfl⟩
                      obtain ⟨n2, hn2⟩ : ∃ x, x = R1.whens[k].num := ⟨_, rfl⟩
                      obtain ⟨n4, hn4⟩ : ∃ x, x = R1.whens[k].pos := ⟨_, rfl⟩
                      obtain ⟨v0, hv0⟩ : ∃ x, x = R2.whens[k].op := ⟨_, rfl⟩
                      obtain ⟨v1, hv1⟩ : ∃ x, x = R2.whens[k].text := ⟨_, rfl⟩
                      obtain ⟨v2, hv2⟩ : ∃ x, x = R2.whens[k].num := ⟨_, rfl⟩
                      obtain ⟨v4, hv4⟩ : ∃ x, x = R2.whens[k].pos := ⟨_, rfl⟩
                      rw [← hn0, ← hn1, ← hn2, ← hn4, ← hv0, ← hv1, ← hv2, ← hv4] at HCALL
                      rw [← hn0] at l0
                      rw [← hn1] at l1
                      rw [← hn2] at l2
                      rw [← hn4] at l4
                      rw [← hv0] at r0
                      rw [← hv1] at r1
                      rw [← hv2] at r2
                      rw [← hv4] at r4
                      have m0 := (hbel.cell (p := ⟨h, r + k * 5, none⟩) hh).trans l0
                      have w0 := (hbel.cell (p := ⟨h', r' + k * 5, none⟩) hh').trans r0
                      have m1 := (hbel.cell (p := ⟨h, r + k * 5 + 1, none⟩) hh).trans l1
                      have w1 := (hbel.cell (p := ⟨h', r' + k * 5 + 1, none⟩) hh').trans r1
                      have m2 := (hbel.cell (p := ⟨h, r + k * 5 + 2, none⟩) hh).trans l2
                      have w2 := (hbel.cell (p := ⟨h', r' + k * 5 + 2, none⟩) hh').trans r2
                      have m3 := (hbel.cell (p := ⟨h, r + k * 5 + 3, none⟩) hh).trans l3
                      have w3 := (hbel.cell (p := ⟨h', r' + k * 5 + 3, none⟩) hh').trans r3
                      have m4 := (hbel.cell (p := ⟨h, r + k * 5 + 4, none⟩) hh).trans l4
                      have w4 := (hbel.cell (p := ⟨h', r' + k * 5 + 4, none⟩) hh').trans r4
                      obtain ⟨f, hff⟩ : ∃ f, f = sameE true R1.whens[k] R2.whens[k] := ⟨_, rfl⟩
                      rw [← hff] at HCALL
                      have HFF := Lib.hid hff
                      clear hcs hcs' hr1 hr2 hf1 hf2 hbel hff hn0 hn1 hn2 hn4 hv0 hv1 hv2 hv4 l0 l1 l2 l3 l4 r0 r1 r2 r3 r4
                      have k1 : (0 : Int) ≤ (k : Int) := by omega
                      have k2 : (k : Int) < (x2 : Int) := by omega
                      go_wp2_with fail
                      refine wp_region_held_drew (S := fun X' => X'.cell? ⟨g, o + j * 4 + 2, none⟩ = some (.slice (some ⟨h, r, none⟩) x2 d1) ∧ X'.cell? ⟨g', o' + j * 4 + 2, none⟩ = some (.slice (some ⟨h', r', none⟩) x2 d2) ∧ X'.cell? ⟨h, r + k * 5, none⟩ = some (.int .i64 n0) ∧ X'.cell? ⟨h, r + k * 5 + 1, none⟩ = some (.string n1) ∧ X'.cell? ⟨h, r + k * 5 + 2, none⟩ = some (.int .i64 n2) ∧ X'.cell? ⟨h, r + k * 5 + 3, none⟩ = some (.slice N n3 nc) ∧ X'.cell? ⟨h, r + k * 5 + 4, none⟩ = some (.int .i64 n4) ∧ X'.cell? ⟨h', r' + k * 5, none⟩ = some (.int .i64 v0) ∧ X'.cell? ⟨h', r' + k * 5 + 1, none⟩ = some (.string v1) ∧ X'.cell? ⟨h', r' + k * 5 + 2, none⟩ = some (.int .i64 v2) ∧ X'.cell? ⟨h', r' + k * 5 + 3, none⟩ = some (.slice V v3 vc) ∧ X'.cell? ⟨h', r' + k * 5 + 4, none⟩ = some (.int .i64 v4)) (by kernel_rfl) ⟨z2, u2, m0, m1, m2, m3, m4, w0, w1, w2, w3, w4⟩ (fun hHeld => ?_)
                      refine rgT 0 ?_
                      try simp only [rgS]
                      refine rgT 1 ?_
                      try simp only [rgS]
                      refine rgT 2 ?_
                      try simp only [rgS]
                      refine rgT 3 ?_
                      try simp only [rgS]
                      refine rgT 4 ?_
                      try simp only [rgS]
                      refine rgT 5 ?_
                      try simp only [rgS]
                      refine rgT 6 ?_
                      try simp only [rgS]
                      refine rgT 7 ?_
                      try simp only [rgS]
                      refine rgT 8 ?_
                      try simp only [rgS]
                      refine rgT 9 ?_
                      try simp only [rgS]
                      refine rgT 10 ?_
                      try simp only [rgS]
                      refine rgT 11 ?_
                      try simp only [rgS]
                      refine rgT 12 ?_
                      try simp only [rgS]
                      refine rgT 13 ?_
                      try simp only [rgS]
                      refine rgT 14 ?_
                      try simp only [rgS]
                      refine rgT 15 ?_
                      try simp only [rgS]
                      refine rgT 16 ?_
                      try simp only [rgS]
                      refine rgO 17 (fun K hK => ?_)
                      go_simp
                      (with_reducible refine (HCALL.out _ (HBV.out.drew)).mono ?_)
                      rintro e w' ⟨rfl, hb⟩
                      have hb : Below wr.heap.size wr w' := (Below.refl _ wr).drew.trans hb
                      refine hK.out _ _ ⟨(hb.cell (lt_of_cell z2)).trans z2, (hb.cell (lt_of_cell u2)).trans u2, (hb.cell (lt_of_cell m0)).trans m0, (hb.cell (lt_of_cell m1)).trans m1, (hb.cell (lt_of_cell m2)).trans m2, (hb.cell (lt_of_cell m3)).trans m3, (hb.cell (lt_of_cell m4)).trans m4, (hb.cell (lt_of_cell w0)).trans w0, (hb.cell (lt_of_cell w1)).trans w1, (hb.cell (lt_of_cell w2)).trans w2, (hb.cell (lt_of_cell w3)).trans w3, (hb.cell (lt_of_cell w4)).trans w4⟩ (fun hH1 => ?_)
                      have HB3 := Lib.hid ((HBV.out).trans (hb.mono HBV.out.size))
                      clear hK K hHeld hb
                      try simp only [rgS]
                      refine rgT 18 ?_
                      try simp only [rgS]
                      refine wpAnyH_done (by kernel_rfl) ?_ _
                      clear hH1
                      by_cases hf : f = true
                      · obtain rfl := hf
                        go_wp2
                        go_roundw
                        case rel => exact ⟨k + 1, by omega, by go_num, fun x h1 h2 hx => by
                          rcases Nat.lt_or_ge x k with h | h
                          · exact HAW.out x h1 h2 h
                          · obtain rfl : x = k := by omega
                            exact HFF.out.symm, HB3.out⟩
                        case measure => simp [intOf]; omega
                      · obtain rfl : f = false := by simpa using hf
                        have HR : Hid (sameRs true l m = false) := Lib.hid (HFL.out (by
                          rw [HSR.out]
                          rintro ⟨_, _, _, h⟩
                          rw [(sameEs_iff.1 h).2 k s1 s2] at HFF
                          exact absurd HFF.out (by decide)))
                        go_wp2
                        go_ret
                        rw [HR.out]
                        exact ⟨rfl, HB3.out⟩
                     · obtain rfl : k = x2 := by omega
                       have HRR : Hid (sameR true R1 R2 = true) := Lib.hid (HSR.out.2 ⟨by first | rfl | trivial, fun _ => by first | rfl | trivial, HSS.out, sameEs_iff.2 ⟨by rw [← HLN.out.2.1, ← HLN.out.2.2], fun x h1 h2 => HAW.out x h1 h2 (by rw [HLN.out.2.1]; exact h1)⟩⟩)
                       have hge2 : ¬ (k : Int) < (k : Int) := by omega
                       clear hbel hkw hk
                       go_wp2
                       go_roundw
                       case rel => exact ⟨j + 1, by omega, by go_num, HOK.out HRR.out, HBV.out⟩
                       case measure => simp [intOf]; omega
              · have cc2 : ((x2 : Int) != (y2 : Int)) = true := by rw [bne_iff_ne]; omega
                have c2' : ¬ (x2 : Int) = (y2 : Int) := by omega
                have HR : Hid (sameRs true l m = false) := Lib.hid (HFL.out (by rw [HSR.out]; rintro ⟨_, _, _, h⟩; have := (sameEs_iff.1 h).1; rw [← HLN.out.2.1, ← HLN.out.2.2] at this; exact e2 this))
                go_wp2_with fail
                refine wp_region_held_drew (S := fun X' => X'.cell? ⟨g, o + j * 4, none⟩ = some (.bool x0) ∧ X'.cell? ⟨g, o + j * 4 + 1, none⟩ = some (.slice A1 x1 c1) ∧ X'.cell? ⟨g, o + j * 4 + 2, none⟩ = some (.slice D1 x2 d1) ∧ X'.cell? ⟨g, o + j * 4 + 3, none⟩ = some (.int .i64 x3) ∧ X'.cell? ⟨g', o' + j * 4, none⟩ = some (.bool x0) ∧ X'.cell? ⟨g', o' + j * 4 + 1, none⟩ = some (.slice A2 x1 c2) ∧ X'.cell? ⟨g', o' + j * 4 + 2, none⟩ = some (.slice D2 y2 d2) ∧ X'.cell? ⟨g', o' + j * 4 + 3, none⟩ = some (.int .i64 x3)) (by kernel_rfl) ⟨z0, z1, z2, z3, u0, u1, u2, u3⟩ (fun hHeld => ?_)
                refine rgT 0 ?_
                try simp only [rgS]
                refine rgT 1 ?_
                try simp only [rgS]
                refine rgT 2 ?_
                try simp only [rgS]
                refine rgT 3 ?_
                try simp only [rgS]
                refine rgT 4 ?_
                try simp only [rgS]
                refine rgT 5 ?_
                try simp only [rgS]
                refine rgT 6 ?_
                try simp only [rgS]
                refine rgT 7 ?_
                try simp only [rgS]
                refine rgT 8 ?_
                try simp only [rgS]
                refine rgT 9 ?_
                try simp only [rgS]
                refine rgT 10 ?_
                try simp only [rgS, cc0]
                refine rgT 11 ?_
                try simp only [rgS]
                refine rgT 12 ?_
                try simp only [rgS]
                refine rgT 13 ?_
                try simp only [rgS]
                refine rgT 14 ?_
                try simp only [rgS]
                refine rgT 15 ?_
                try simp only [rgS]
                refine rgT 16 ?_
                try simp only [rgS]
                refine rgT 17 ?_
                try simp only [rgS]
                refine rgT 18 ?_
                try simp only [rgS]
                refine rgT 19 ?_
                try simp only [rgS]
                refine rgT 20 ?_
                try simp only [rgS]
                refine rgT 21 ?_
                try simp only [rgS]
                refine rgT 22 ?_
                try simp only [rgS]
                refine rgT 23 ?_
                try simp only [rgS]
                refine rgT 24 ?_
                try simp only [rgS, cc3]
                refine rgT 25 ?_
                try simp only [rgS]
                refine rgT 26 ?_
                try simp only [rgS]
                refine rgT 27 ?_
                try simp only [rgS]
                refine rgT 28 ?_
                try simp only [rgS]
                refine rgT 29 ?_
                try simp only [rgS]
                refine rgT 30 ?_
                try simp only [rgS]
                refine rgT 31 ?_
                try simp only [rgS]
                refine rgT 32 ?_
                try simp only [rgS]
                refine rgT 33 ?_
                try simp only [rgS]
                refine rgT 34 ?_
                try simp only [rgS]
                refine rgT 35 ?_
                try simp only [rgS]
                refine rgT 36 ?_
                try simp only [rgS]
                refine rgT 37 ?_
                try simp only [rgS]
                refine rgT 38 ?_
                try simp only [rgS]
                refine rgT 39 ?_
                try simp only [rgS]
                refine rgT 40 ?_
                try simp only [rgS, cc1]
                refine rgT 41 ?_
                try simp only [rgS]
                refine rgT 42 ?_
                try simp only [rgS]
                refine rgT 43 ?_
                try simp only [rgS]
                refine rgT 44 ?_
                try simp only [rgS]
                refine rgT 45 ?_
                try simp only [rgS]
                refine rgT 46 ?_
                try simp only [rgS]
                refine rgT 47 ?_
                try simp only [rgS]
                refine rgT 48 ?_
                try simp only [rgS]
                refine rgT 49 ?_
                try simp only [rgS]
                refine rgT 50 ?_
                try simp only [rgS]
                refine rgT 51 ?_
                try simp only [rgS]
                refine rgT 52 ?_
                try simp only [rgS]
                refine rgT 53 ?_
                try simp only [rgS]
                refine rgT 54 ?_
                try simp only [rgS]
                refine rgT 55 ?_
                try simp only [rgS, cc2]
                refine rgT 56 ?_
                try simp only [rgS]
                refine wpAnyH_done (by kernel_rfl) ?_ _
                clear hHeld
                go_wp2
                go_ret
                rw [HR.out]
                exact ⟨rfl, below_drewN HBE.out _⟩
            · have cc1 : ((x1 : Int) != (y1 : Int)) = true := by rw [bne_iff_ne]; omega
              have c1' : ¬ (x1 : Int) = (y1 : Int) := by omega
              have HR : Hid (sameRs true l m = false) := Lib.hid (HFL.out (by rw [HSR.out]; rintro ⟨_, _, h, _⟩; have := congrArg List.length h; rw [← HLN.out.1.1, ← HLN.out.1.2] at this; exact e1 this))
              go_wp2_with fail
              refine wp_region_held_drew (S := fun X' => X'.cell? ⟨g, o + j * 4, none⟩ = some (.bool x0) ∧ X'.cell? ⟨g, o + j * 4 + 1, none⟩ = some (.slice A1 x1 c1) ∧ X'.cell? ⟨g, o + j * 4 + 2, none⟩ = some (.slice D1 x2 d1) ∧ X'.cell? ⟨g, o + j * 4 + 3, none⟩ = some (.int .i64 x3) ∧ X'.cell? ⟨g', o' + j * 4, none⟩ = some (.bool x0) ∧ X'.cell? ⟨g', o' + j * 4 + 1, none⟩ = some (.slice A2 y1 c2) ∧ X'.cell? ⟨g', o' + j * 4 + 2, none⟩ = some (.slice D2 y2 d2) ∧ X'.cell? ⟨g', o' + j * 4 + 3, none⟩ = some (.int .i64 x3)) (by kernel_rfl) ⟨z0, z1, z2, z3, u0, u1, u2, u3⟩ (fun hHeld => ?_)
              refine rgT 0 ?_
              try simp only [rgS]
              refine rgT 1 ?_
              try simp only [rgS]
              refine rgT 2 ?_
              try simp only [rgS]
              refine rgT 3 ?_
              try simp only [rgS]
              refine rgT 4 ?_
              try simp only [rgS]
              refine rgT 5 ?_
              try simp only [rgS]
              refine rgT 6 ?_
              try simp only [rgS]
              refine rgT 7 ?_
              try simp only [rgS]
              refine rgT 8 ?_
              try simp only [rgS]
              refine rgT 9 ?_
              try simp only [rgS]
              refine rgT 10 ?_
              try simp only [rgS, cc0]
              refine rgT 11 ?_
              try simp only [rgS]
              refine rgT 12 ?_
              try simp only [rgS]
              refine rgT 13 ?_
              try simp only [rgS]
              refine rgT 14 ?_
              try simp only [rgS]
              refine rgT 15 ?_
              try simp only [rgS]
              refine rgT 16 ?_
              try simp only [rgS]
              refine rgT 17 ?_
              try simp only [rgS]
              refine rgT 18 ?_
              try simp only [rgS]
              refine rgT 19 ?_
              try simp only [rgS]
              refine rgT 20 ?_
              try simp only [rgS]
              refine rgT 21 ?_
              try simp only [rgS]
              refine rgT 22 ?_
              try simp only [rgS]
              refine rgT 23 ?_
              try simp only [rgS]
              refine rgT 24 ?_
              try simp only [rgS, cc3]
              refine rgT 25 ?_
              try simp only [rgS]
              refine rgT 26 ?_
              try simp only [rgS]
              refine rgT 27 ?_
              try simp only [rgS]
              refine rgT 28 ?_
              try simp only [rgS]
              refine rgT 29 ?_
              try simp only [rgS]
              refine rgT 30 ?_
              try simp only [rgS]
              refine rgT 31 ?_
              try simp only [rgS]
              refine rgT 32 ?_
              try simp only [rgS]
              refine rgT 33 ?_
              try simp only [rgS]
              refine rgT 34 ?_
              try simp only [rgS]
              refine rgT 35 ?_
              try simp only [rgS]
              refine rgT 36 ?_
              try simp only [rgS]
              refine rgT 37 ?_
              try simp only [rgS]
              refine rgT 38 ?_
              try simp only [rgS]
              refine rgT 39 ?_
              try simp only [rgS]
              refine rgT 40 ?_
              try simp only [rgS, cc1]
              refine rgT 41 ?_
              try simp only [rgS]
              refine rgT 42 ?_
              try simp only [rgS]
              refine rgU 43 ?_
              try simp only [rgS]
              refine rgU 44 ?_
              try simp only [rgS]
              refine rgU 45 ?_
              try simp only [rgS]
              refine rgU 46 ?_
              try simp only [rgS]
              refine rgU 47 ?_
              try simp only [rgS]
              refine rgU 48 ?_
              try simp only [rgS]
              refine rgU 49 ?_
              try simp only [rgS]
              refine rgU 50 ?_
              try simp only [rgS]
              refine rgU 51 ?_
              try simp only [rgS]
              refine rgU 52 ?_
              try simp only [rgS]
              refine rgU 53 ?_
              try simp only [rgS]
              refine rgU 54 ?_
              try simp only [rgS]
              refine rgU 55 ?_
              try simp only [rgS]
              refine rgT 56 ?_
              try simp only [rgS]
              refine wpAnyH_done (by kernel_rfl) ?_ _
              clear hHeld
              go_wp2
              go_ret
              rw [HR.out]
              exact ⟨rfl, below_drewN HBE.out _⟩
          · have cc3 : (x3 != y3) = true := by rw [bne_iff_ne]; exact e3
            have HR : Hid (sameRs true l m = false) := Lib.hid (HFL.out (by rw [HSR.out]; rintro ⟨_, h, _⟩; exact e3 (h rfl)))
            go_wp2_with fail
            refine wp_region_held_drew (S := fun X' => X'.cell? ⟨g, o + j * 4, none⟩ = some (.bool x0) ∧ X'.cell? ⟨g, o + j * 4 + 1, none⟩ = some (.slice A1 x1 c1) ∧ X'.cell? ⟨g, o + j * 4 + 2, none⟩ = some (.slice D1 x2 d1) ∧ X'.cell? ⟨g, o + j * 4 + 3, none⟩ = some (.int .i64 x3) ∧ X'.cell? ⟨g', o' + j * 4, none⟩ = some (.bool x0) ∧ X'.cell? ⟨g', o' + j * 4 + 1, none⟩ = some (.slice A2 y1 c2) ∧ X'.cell? ⟨g', o' + j * 4 + 2, none⟩ = some (.slice D2 y2 d2) ∧ X'.cell? ⟨g', o' + j * 4 + 3, none⟩ = some (.int .i64 y3)) (by kernel_rfl) ⟨z0, z1, z2, z3, u0, u1, u2, u3⟩ (fun hHeld => ?_)
            refine rgT 0 ?_
            try simp only [rgS]
            refine rgT 1 ?_
            try simp only [rgS]
            refine rgT 2 ?_
            try simp only [rgS]
            refine rgT 3 ?_
            try simp only [rgS]
            refine rgT 4 ?_
            try simp only [rgS]
            refine rgT 5 ?_
            try simp only [rgS]
            refine rgT 6 ?_
            try simp only [rgS]
            refine rgT 7 ?_
            try simp only [rgS]
            refine rgT 8 ?_
            try simp only [rgS]
            refine rgT 9 ?_
            try simp only [rgS]
            refine rgT 10 ?_
            try simp only [rgS, cc0]
            refine rgT 11 ?_
            try simp only [rgS]
            refine rgT 12 ?_
            try simp only [rgS]
            refine rgT 13 ?_
            try simp only [rgS]
            refine rgT 14 ?_
            try simp only [rgS]
            refine rgT 15 ?_
            try simp only [rgS]
            refine rgT 16 ?_
            try simp only [rgS]
            refine rgT 17 ?_
            try simp only [rgS]
            refine rgT 18 ?_
            try simp only [rgS]
            refine rgT 19 ?_
            try simp only [rgS]
            refine rgT 20 ?_
            try simp only [rgS]
            refine rgT 21 ?_
            try simp only [rgS]
            refine rgT 22 ?_
            try simp only [rgS]
            refine rgT 23 ?_
            try simp only [rgS]
            refine rgT 24 ?_
            try simp only [rgS, cc3]
            refine rgT 25 ?_
            try simp only [rgS]
            refine rgT 26 ?_
            try simp only [rgS]
            refine rgT 27 ?_
            try simp only [rgS]
            refine rgU 28 ?_
            try simp only [rgS]
            refine rgU 29 ?_
            try simp only [rgS]
            refine rgU 30 ?_
            try simp only [rgS]
            refine rgU 31 ?_
            try simp only [rgS]
            refine rgU 32 ?_
            try simp only [rgS]
            refine rgU 33 ?_
            try simp only [rgS]
            refine rgU 34 ?_
            try simp only [rgS]
            refine rgU 35 ?_
            try simp only [rgS]
            refine rgU 36 ?_
            try simp only [rgS]
            refine rgU 37 ?_
            try simp only [rgS]
            refine rgU 38 ?_
            try simp only [rgS]
            refine rgU 39 ?_
            try simp only [rgS]
            refine rgU 40 ?_
            try simp only [rgS]
            refine rgT 41 ?_
            try simp only [rgS]
            refine rgT 42 ?_
            try simp only [rgS]
            refine rgU 43 ?_
            try simp only [rgS]
            refine rgU 44 ?_
            try simp only [rgS]
            refine rgU 45 ?_
            try simp only [rgS]
            refine rgU 46 ?_
            try simp only [rgS]
            refine rgU 47 ?_
            try simp only [rgS]
            refine rgU 48 ?_
            try simp only [rgS]
            refine rgU 49 ?_
            try simp only [rgS]
            refine rgU 50 ?_
            try simp only [rgS]
            refine rgU 51 ?_
            try simp only [rgS]
            refine rgU 52 ?_
            try simp only [rgS]
            refine rgU 53 ?_
            try simp only [rgS]
            refine rgU 54 ?_
            try simp only [rgS]
            refine rgU 55 ?_
            try simp only [rgS]
            refine rgT 56 ?_
            try simp only [rgS]
            refine wpAnyH_done (by kernel_rfl) ?_ _
            clear hHeld
            go_wp2
            go_ret
            rw [HR.out]
            exact ⟨rfl, below_drewN HBE.out _⟩
        · obtain ⟨rfl, rfl⟩ | ⟨rfl, rfl⟩ : (x0 = true ∧ y0 = false) ∨ (x0 = false ∧ y0 = true) := by cases x0 <;> cases y0 <;> simp_all
          · have cc0 : (true != false) = true := rfl
            have HR : Hid (sameRs true l m = false) := Lib.hid (HFL.out (by rw [HSR.out]; rintro ⟨h, _⟩; exact e0 h))
            go_wp2_with fail
            refine wp_region_held_drew (S := fun X' => X'.cell? ⟨g, o + j * 4, none⟩ = some (.bool true) ∧ X'.cell? ⟨g, o + j * 4 + 1, none⟩ = some (.slice A1 x1 c1) ∧ X'.cell? ⟨g, o + j * 4 + 2, none⟩ = some (.slice D1 x2 d1) ∧ X'.cell? ⟨g, o + j * 4 + 3, none⟩ = some (.int .i64 x3) ∧ X'.cell? ⟨g', o' + j * 4, none⟩ = some (.bool false) ∧ X'.cell? ⟨g', o' + j * 4 + 1, none⟩ = some (.slice A2 y1 c2) ∧ X'.cell? ⟨g', o' + j * 4 + 2, none⟩ = some (.slice D2 y2 d2) ∧ X'.cell? ⟨g', o' + j * 4 + 3, none⟩ = some (.int .i64 y3)) (by kernel_rfl) ⟨z0, z1, z2, z3, u0, u1, u2, u3⟩ (fun hHeld => ?_)
            refine rgT 0 ?_
            try simp only [rgS]
            refine rgT 1 ?_
            try simp only [rgS]
            refine rgT 2 ?_
            try simp only [rgS]
            refine rgT 3 ?_
            try simp only [rgS]
            refine rgT 4 ?_
            try simp only [rgS]
            refine rgT 5 ?_
            try simp only [rgS]
            refine rgT 6 ?_
            try simp only [rgS]
            refine rgT 7 ?_
            try simp only [rgS]
            refine rgT 8 ?_
            try simp only [rgS]
            refine rgT 9 ?_
            try simp only [rgS]
            refine rgT 10 ?_
            try simp only [rgS, cc0]
            refine rgT 11 ?_
            try simp only [rgS]
            refine rgU 12 ?_
            try simp only [rgS]
            refine rgU 13 ?_
            try simp only [rgS]
            refine rgU 14 ?_
            try simp only [rgS]
            refine rgU 15 ?_
            try simp only [rgS]
            refine rgU 16 ?_
            try simp only [rgS]
            refine rgU 17 ?_
            try simp only [rgS]
            refine rgU 18 ?_
            try simp only [rgS]
            refine rgU 19 ?_
            try simp only [rgS]
            refine rgU 20 ?_
            try simp only [rgS]
            refine rgU 21 ?_
            try simp only [rgS]
            refine rgU 22 ?_
            try simp only [rgS]
            refine rgU 23 ?_
            try simp only [rgS]
            refine rgU 24 ?_
            try simp only [rgS]
            refine rgU 25 ?_
            try simp only [rgS]
            refine rgT 26 ?_
            try simp only [rgS]
            refine rgT 27 ?_
            try simp only [rgS]
            refine rgU 28 ?_
            try simp only [rgS]
            refine rgU 29 ?_
            try simp only [rgS]
            refine rgU 30 ?_
            try simp only [rgS]
            refine rgU 31 ?_
            try simp only [rgS]
            refine rgU 32 ?_
            try simp only [rgS]
            refine rgU 33 ?_
            try simp only [rgS]
            refine rgU 34 ?_
            try simp only [rgS]
            refine rgU 35 ?_
            try simp only [rgS]
            refine rgU 36 ?_
            try simp only [rgS]
            refine rgU 37 ?_
            try simp only [rgS]
            refine rgU 38 ?_
            try simp only [rgS]
            refine rgU 39 ?_
            try simp only [rgS]
            refine rgU 40 ?_
            try simp only [rgS]
            refine rgT 41 ?_
            try simp only [rgS]
            refine rgT 42 ?_
            try simp only [rgS]
            refine rgU 43 ?_
            try simp only [rgS]
            refine rgU 44 ?_
            try simp only [rgS]
            refine rgU 45 ?_
            try simp only [rgS]
            refine rgU 46 ?_
            try simp only [rgS]
            refine rgU 47 ?_
            try simp only [rgS]
            refine rgU 48 ?_
            try simp only [rgS]
            refine rgU 49 ?_
            try simp only [rgS]
            refine rgU 50 ?_
            try simp only [rgS]
            refine rgU 51 ?_
            try simp only [rgS]
            refine rgU 52 ?_
            try simp only [rgS]
            refine rgU 53 ?_
            try simp only [rgS]
            refine rgU 54 ?_
            try simp only [rgS]
            refine rgU 55 ?_
            try simp only [rgS]
            refine rgT 56 ?_
            try simp only [rgS]
            refine wpAnyH_done (by kernel_rfl) ?_ _
            clear hHeld
            go_wp2
            go_ret
            rw [HR.out]
            exact ⟨rfl, below_drewN HBE.out _⟩
          · have cc0 : (false != true) = true := rfl
            have HR : Hid (sameRs true l m = false) := Lib.hid (HFL.out (by rw [HSR.out]; rintro ⟨h, _⟩; exact e0 h))
            go_wp2_with fail
            refine wp_region_held_drew (S := fun X' => X'.cell? ⟨g, o + j * 4, none⟩ = some (.bool false) ∧ X'.cell? ⟨g, o + j * 4 + 1, none⟩ = some (.slice A1 x1 c1) ∧ X'.cell? ⟨g, o + j * 4 + 2, none⟩ = some (.slice D1 x2 d1) ∧ X'.cell? ⟨g, o + j * 4 + 3, none⟩ = some (.int .i64 x3) ∧ X'.cell? ⟨g', o' + j * 4, none⟩ = some (.bool true) ∧ X'.cell? ⟨g', o' + j * 4 + 1, none⟩ = some (.slice A2 y1 c2) ∧ X'.cell? ⟨g', o' + j * 4 + 2, none⟩ = some (.slice D2 y2 d2) ∧ X'.cell? ⟨g', o' + j * 4 + 3, none⟩ = some (.int .i64 y3)) (by kernel_rfl) ⟨z0, z1, z2, z3, u0, u1, u2, u3⟩ (fun hHeld => ?_)
            refine rgT 0 ?_
            try simp only [rgS]
            refine rgT 1 ?_
            try simp only [rgS]
            refine rgT 2 ?_
            try simp only [rgS]
            refine rgT 3 ?_
            try simp only [rgS]
            refine rgT 4 ?_
            try simp only [rgS]
            refine rgT 5 ?_
            try simp only [rgS]
            refine rgT 6 ?_
            try simp only [rgS]
            refine rgT 7 ?_
            try simp only [rgS]
            refine rgT 8 ?_
            try simp only [rgS]
            refine rgT 9 ?_
            try simp only [rgS]
            refine rgT 10 ?_
            try simp only [rgS, cc0]
            refine rgT 11 ?_
            try simp only [rgS]
            refine rgU 12 ?_
            try simp only [rgS]
            refine rgU 13 ?_
            try simp only [rgS]
            refine rgU 14 ?_
            try simp only [rgS]
            refine rgU 15 ?_
            try simp only [rgS]
            refine rgU 16 ?_
            try simp only [rgS]
            refine rgU 17 ?_
            try simp only [rgS]
            refine rgU 18 ?_
            try simp only [rgS]
            refine rgU 19 ?_
            try simp only [rgS]
            refine rgU 20 ?_
            try simp only [rgS]
            refine rgU 21 ?_
            try simp only [rgS]
            refine rgU 22 ?_
            try simp only [rgS]
            refine rgU 23 ?_
            try simp only [rgS]
            refine rgU 24 ?_
            try simp only [rgS]
            refine rgU 25 ?_
            try simp only [rgS]
            refine rgT 26 ?_
            try simp only [rgS]
            refine rgT 27 ?_
            try simp only [rgS]
            refine rgU 28 ?_
            try simp only [rgS]
            refine rgU 29 ?_
            try simp only [rgS]
            refine rgU 30 ?_
            try simp only [rgS]
            refine rgU 31 ?_
            try simp only [rgS]
            refine rgU 32 ?_
            try simp only [rgS]
            refine rgU 33 ?_
            try simp only [rgS]
            refine rgU 34 ?_
            try simp only [rgS]
            refine rgU 35 ?_
            try simp only [rgS]
            refine rgU 36 ?_
            try simp only [rgS]
            refine rgU 37 ?_
            try simp only [rgS]
            refine rgU 38 ?_
            try simp only [rgS]
            refine rgU 39 ?_
            try simp only [rgS]
            refine rgU 40 ?_
            try simp only [rgS]
            refine rgT 41 ?_
            try simp only [rgS]
            refine rgT 42 ?_
            try simp only [rgS]
            refine rgU 43 ?_
            try simp only [rgS]
            refine rgU 44 ?_
            try simp only [rgS]
            refine rgU 45 ?_
            try simp only [rgS]
            refine rgU 46 ?_
            try simp only [rgS]
            refine rgU 47 ?_
            try simp only [rgS]
            refine rgU 48 ?_
            try simp only [rgS]
            refine rgU 49 ?_
            try simp only [rgS]
            refine rgU 50 ?_
            try simp only [rgS]
            refine rgU 51 ?_
            try simp only [rgS]
            refine rgU 52 ?_
            try simp only [rgS]
            refine rgU 53 ?_
            try simp only [rgS]
            refine rgU 54 ?_
            try simp only [rgS]
            refine rgU 55 ?_
            try simp only [rgS]
            refine rgT 56 ?_
            try simp only [rgS]
            refine wpAnyH_done (by kernel_rfl) ?_ _
            clear hHeld
            go_wp2
            go_ret
            rw [HR.out]
            exact ⟨rfl, below_drewN HBE.out _⟩
      · obtain rfl : j = p := by omega
        have HR : Hid (sameRs true l m = true) := Lib.hid (by
          rw [HSAME.out]
          exact ⟨by rw [← HP.out, ← HQ.out], fun x h1 h2 => HA.out x h1 h2 (by rw [HP.out]; exact h1)⟩)
        have hge : ¬ (j : Int) < (j : Int) := by omega
        clear hlt hbel
        go_wp2
        go_ret
        rw [HR.out]
        exact ⟨rfl, HBE.out⟩
  · have hE : ((p : Int) != (q : Int)) = true := by rw [bne_iff_ne]; omega
    have hE' : ¬ (p : Int) = (q : Int) := by omega
    have HR : Hid (sameRs true l m = false) := Lib.hid (by
      rw [← Bool.not_eq_true, HSAME.out]
      rintro ⟨h, _⟩
      exact hpq (by rw [HP.out, HQ.out]; exact h))
    go_enter Tryz.func14, Tryz.ntmps14
    go_wp2
    go_ret
    rw [HR.out]
    exact ⟨rfl, Below.refl _ _⟩
end Go.Proofs.YtcjfealalokjaaaGreatDoor
