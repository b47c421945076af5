/- JsonHuge, JsonHuge2: merged. -/
import Derived.Test.YtblheibknpphkaaGreatDoorBa04
set_option linter.all false
namespace Go.Proofs.YtblheibknpphkaaGreatDoor
open Go Go.RowKit
mutual
/-- Is a value more than is looked at, and how many are still looked at. -/
def hgJ : J → Int → Bool × Int
  | .mk _ _ s l k, left =>
    if left - 1 - min (k.length : Int) 5000 < 0 ∨ 5000 < s.size ∨ 1000 < k.length ∨ 1000 < l.length then (true, left - 1 - min (k.length : Int) 5000)
    else if k.any (fun t => decide (1000 < t.size)) then (true, left - 1 - min (k.length : Int) 5000)
    else hgLs l (left - 1 - min (k.length : Int) 5000)
def hgLs : List J → Int → Bool × Int
  | [], left => (false, left)
  | x :: r, left => if (hgJ x left).1 then (true, (hgJ x left).2) else hgLs r (hgJ x left).2
end
theorem hgJ_eq (a : J) (left : Int) : hgJ a left =
    if left - 1 - min (a.k.length : Int) 5000 < 0 ∨ 5000 < a.s.size ∨ 1000 < a.k.length ∨ 1000 < a.l.length then (true, left - 1 - min (a.k.length : Int) 5000)
    else if a.k.any (fun t => decide (1000 < t.size)) then (true, left - 1 - min (a.k.length : Int) 5000)
    else hgLs a.l (left - 1 - min (a.k.length : Int) 5000) := by
  cases a; rw [hgJ]; rfl
theorem hgLs_bd : ∀ (l : List J) (left : Int), (∀ x ∈ l, ∀ left, left ≤ 1000 → (hgJ x left).1 = false → 0 ≤ (hgJ x left).2 ∧ (hgJ x left).2 ≤ 1000) → 0 ≤ left → left ≤ 1000 → (hgLs l left).1 = false → 0 ≤ (hgLs l left).2 ∧ (hgLs l left).2 ≤ 1000
  | [], left, _, h0, h1, _ => by rw [hgLs]; exact ⟨h0, h1⟩
  | x :: r, left, ih, h0, h1, hf => by
    rw [hgLs] at hf ⊢
    cases hx : (hgJ x left).1
    · have hb := ih x (by simp) left h1 hx
      rw [hx] at hf
      rw [if_neg (by decide)] at hf ⊢
      exact hgLs_bd r _ (fun y hy => ih y (List.mem_cons_of_mem _ hy)) hb.1 hb.2 hf
    · rw [hx, if_pos rfl] at hf; exact absurd hf (by simp)
theorem hgJ_bd : ∀ (a : J) (left : Int), left ≤ 1000 → (hgJ a left).1 = false → 0 ≤ (hgJ a left).2 ∧ (hgJ a left).2 ≤ 1000 := fun a => by
  induction a using J.ind with
  | h kd n s l k ih =>
    intro left h1 hf
    rw [hgJ] at hf ⊢
    split at hf
    · exact absurd hf (by simp)
    · rename_i hn
      rw [if_neg hn]
      split at hf
      · exact absurd hf (by simp)
      · rename_i hn2
        rw [if_neg hn2]
        exact hgLs_bd l _ ih (by omega) (by omega) hf
theorem hgLs_drop {l : List J} {m : Nat} (h : m < l.length) (left : Int) : hgLs (l.drop m) left = if (hgJ l[m] left).1 then (true, (hgJ l[m] left).2) else hgLs (l.drop (m + 1)) (hgJ l[m] left).2 := by
  rw [List.drop_eq_getElem_cons h, hgLs]
set_option maxRecDepth 100000 in
set_option maxHeartbeats 8000000 in
theorem refHuge_early (a : J) (va : Value) (left : Int) (W : World) (ha : RepJ W a va) (h0 : 0 ≤ left) (h1 : left ≤ 1000)
    (h : left - 1 - min (a.k.length : Int) 5000 < 0 ∨ 5000 < a.s.size ∨ 1000 < a.k.length ∨ 1000 < a.l.length) :
    Calls Tryz.prog 35 #[va, .int .i64 left] W fun e w' => e = .returned (.tuple #[.bool (hgJ a left).1, .int .i64 (hgJ a left).2]) ∧ Below W.heap.size W w' := by
  have HR : Hid (hgJ a left = (true, left - 1 - min (a.k.length : Int) 5000)) := Lib.hid (by rw [hgJ_eq, if_pos h])
  obtain ⟨vk, A, c, rfl, hs, hk, hl, hc⟩ := ha.open
  obtain ⟨K, d, rfl, hkl, hkc⟩ := hk.open
  obtain ⟨s, hs1⟩ : ∃ s, s = a.s := ⟨_, rfl⟩
  obtain ⟨kd, hk1⟩ : ∃ k, k = a.kind := ⟨_, rfl⟩
  obtain ⟨n, hn1⟩ : ∃ k, k = a.n := ⟨_, rfl⟩
  obtain ⟨p, hp1⟩ : ∃ k, k = a.l.length := ⟨_, rfl⟩
  obtain ⟨q, hq1⟩ : ∃ k, k = a.k.length := ⟨_, rfl⟩
  rw [← hs1, ← hk1, ← hn1, ← hp1, ← hq1]
  rw [← hs1, ← hp1, ← hq1] at h
  rw [← hq1] at HR
  rw [← hp1] at hl
  rw [← hq1] at hkl
  rw [← hs1] at hs
  clear ha hk hkc hc hs1 hk1 hn1 hp1 hq1
  by_cases m1 : (q : Int) ≤ 5000
  · rw [show min (q : Int) 5000 = q by omega] at h HR
    by_cases l0 : left - 1 - (q : Int) < 0
    · clear h
      go_enter Tryz.func35, Tryz.ntmps35
      go_wp2
      (try go_wp2)
      go_ret2
      rw [HR.out]
      exact ⟨rfl, (Below.refl _ _).alloc (Nat.le_refl _) _⟩
    · by_cases l1 : (5000 : Int) < (s.size : Int)
      · clear h
        go_enter Tryz.func35, Tryz.ntmps35
        go_wp2
        (try go_wp2)
        go_ret2
        rw [HR.out]
        exact ⟨rfl, (Below.refl _ _).alloc (Nat.le_refl _) _⟩
      · have l2 : ¬ (1000 : Int) < (q : Int) := by omega
        have l3 : (1000 : Int) < (p : Int) := by omega
        clear h
        go_enter Tryz.func35, Tryz.ntmps35
        go_wp2
        (try go_wp2)
        go_ret2
        rw [HR.out]
        exact ⟨rfl, (Below.refl _ _).alloc (Nat.le_refl _) _⟩
  · rw [show min (q : Int) 5000 = 5000 by omega] at h HR
    have l0 : left - 1 - 5000 < 0 := by omega
    clear h
    go_enter Tryz.func35, Tryz.ntmps35
    go_wp2
    (try go_wp2)
    go_ret2
    rw [HR.out]
    exact ⟨rfl, (Below.refl _ _).alloc (Nat.le_refl _) _⟩
end Go.Proofs.YtblheibknpphkaaGreatDoor
namespace Go.Proofs.YtblheibknpphkaaGreatDoor
open Go Go.RowKit
set_option maxRecDepth 100000 in
set_option maxHeartbeats 8000000 in
theorem refHuge_late (a : J) (ih : ∀ x ∈ a.l, ∀ (va : Value) (left : Int) (W : World), RepJ W x va → 0 ≤ left → left ≤ 1000 → Calls Tryz.prog 35 #[va, .int .i64 left] W fun e w' => e = .returned (.tuple #[.bool (hgJ x left).1, .int .i64 (hgJ x left).2]) ∧ Below W.heap.size W w')
    (va : Value) (left : Int) (W : World) (ha : RepJ W a va) (h0 : 0 ≤ left) (h1 : left ≤ 1000)
    (h : ¬ (left - 1 - min (a.k.length : Int) 5000 < 0 ∨ 5000 < a.s.size ∨ 1000 < a.k.length ∨ 1000 < a.l.length)) :
    Calls Tryz.prog 35 #[va, .int .i64 left] W fun e w' => e = .returned (.tuple #[.bool (hgJ a left).1, .int .i64 (hgJ a left).2]) ∧ Below W.heap.size W w' := by
  have HR : Hid (hgJ a left = if a.k.any (fun t => decide (1000 < t.size)) then (true, left - 1 - min (a.k.length : Int) 5000) else hgLs a.l (left - 1 - min (a.k.length : Int) 5000)) := Lib.hid (by rw [hgJ_eq, if_neg h])
  obtain ⟨vk, A, c, rfl, hs, hk, hl, hc⟩ := ha.open
  obtain ⟨K, d, rfl, hkl, hkc⟩ := hk.open
  have HKC := Lib.hid hkc
  have HC := Lib.hid hc
  have HIH := Lib.hid ih
  obtain ⟨s, hs1⟩ : ∃ s, s = a.s := ⟨_, rfl⟩
  obtain ⟨kd, hk1⟩ : ∃ k, k = a.kind := ⟨_, rfl⟩
  obtain ⟨n, hn1⟩ : ∃ k, k = a.n := ⟨_, rfl⟩
  obtain ⟨p, hp1⟩ : ∃ k, k = a.l.length := ⟨_, rfl⟩
  obtain ⟨q, hq1⟩ : ∃ k, k = a.k.length := ⟨_, rfl⟩
  rw [← hs1, ← hk1, ← hn1, ← hp1, ← hq1]
  rw [← hs1, ← hp1, ← hq1] at h
  have hq5 : (q : Int) ≤ 1000 := by omega
  have hp5 : (p : Int) ≤ 1000 := by omega
  rw [← hq1, show min (q : Int) 5000 = q by omega] at HR
  rw [show min (q : Int) 5000 = q by omega] at h
  have l0 : ¬ left - 1 - (q : Int) < 0 := by omega
  have l1 : ¬ (5000 : Int) < (s.size : Int) := by omega
  have l2 : ¬ (1000 : Int) < (q : Int) := by omega
  have l3 : ¬ (1000 : Int) < (p : Int) := by omega
  have m1 : (q : Int) ≤ 5000 := by omega
  have HL : Hid (0 ≤ left - 1 - (q : Int) ∧ left - 1 - (q : Int) ≤ 1000) := Lib.hid (by omega)
  have HP := Lib.hid hp1
  have HQ := Lib.hid hq1
  clear ha hk hkc hc hs hs1 hk1 hn1 hp1 hq1 hl hkl ih h
  go_enter Tryz.func35, Tryz.ntmps35
  go_wp2
  (try go_wp2)
  have hB1 : Below W.heap.size W (W.alloc (.cells #[.int .i64 kd, .int .i64 n, .string s, .slice A p c, .slice K q d] 26)) := (Below.refl _ _).alloc (Nat.le_refl _) _
  have hx1 : (W.alloc (.cells #[.int .i64 kd, .int .i64 n, .string s, .slice A p c, .slice K q d] 26)).cell? ⟨W.heap.size, 3, none⟩ = some (.slice A p c) := by simp
  have hx2 : (W.alloc (.cells #[.int .i64 kd, .int .i64 n, .string s, .slice A p c, .slice K q d] 26)).cell? ⟨W.heap.size, 4, none⟩ = some (.slice K q d) := by simp
  obtain ⟨w2, hw2⟩ : ∃ x, x = W.alloc (.cells #[.int .i64 kd, .int .i64 n, .string s, .slice A p c, .slice K q d] 26) := ⟨_, rfl⟩
  rw [← hw2] at hB1 hx1 hx2 ⊢
  have HX := Lib.hid (And.intro hx1 hx2)
  have HB2 := Lib.hid hB1
  clear hw2 hx1 hx2 hB1
  go_loopw [6] (fun i wr => ∃ j : Nat, j ≤ q ∧ i = .int .i64 (j : Int) ∧ (∀ x (hx : x < a.k.length), x < j → (a.k[x]).size ≤ 1000) ∧ Below w2.heap.size w2 wr) (fun i _ => q - (intOf i).toNat)
  case atStart => exact ⟨0, by omega, rfl, fun x _ hx => absurd hx (Nat.not_lt_zero _), Below.refl _ _⟩
  case round =>
    obtain ⟨j, hj, rfl, hall, hbel⟩ := hrel
    have HA := Lib.hid hall
    have HBE := Lib.hid hbel
    have y2 := (hbel.cell (p := ⟨W.heap.size, 4, none⟩) (lt_of_cell HX.out.2)).trans HX.out.2
    clear hall hbel
    by_cases hlt : j < q
    · have hj1 : j < a.k.length := by rw [← HQ.out]; exact hlt
      obtain ⟨g, o, rfl, hg, hz, hcell⟩ := HKC.out j hj1
      have hbw := HB2.out.trans (HBE.out.mono HB2.out.size)
      have z1 := (hbw.cell (p := ⟨g, o + j, none⟩) hg).trans hcell
      have HE : Hid (∀ x (hx : x < a.k.length), x = j → a.k[x].size = (a.k[j]'hj1).size) := Lib.hid (fun x hx e => by subst e; rfl)
      have HIN : Hid (a.k[j]'hj1 ∈ a.k) := Lib.hid (List.getElem_mem hj1)
      obtain ⟨t1, ht1⟩ : ∃ t, t = a.k[j]'hj1 := ⟨_, rfl⟩
      rw [← ht1] at z1 HE HIN hz
      have i0 : (j : Int) < (q : Int) := by omega
      have i2 : (0 : Int) ≤ (j : Int) := by omega
      clear hcell ht1 hbw
      by_cases he : (1000 : Int) < (t1.size : Int)
      · have HF : Hid (hgJ a left = (true, left - 1 - (q : Int))) := Lib.hid (by
          rw [HR.out, if_pos]
          exact List.any_eq_true.2 ⟨t1, HIN.out, decide_eq_true (by omega)⟩)
        go_wp2
        go_ret2
        rw [HF.out]
        exact ⟨rfl, HB2.out.trans (HBE.out.mono HB2.out.size)⟩
      · have HT : Hid (t1.size ≤ 1000) := Lib.hid (by omega)
        go_wp2
        exact ⟨⟨j + 1, by omega, by go_num, fun x hx hx2 => by
          rcases Nat.lt_or_ge x j with h | h
          · exact HA.out x hx h
          · rw [HE.out x hx (by omega)]; exact HT.out, HBE.out⟩, by simp [intOf]; omega⟩
    · obtain rfl : j = q := by omega
      have hge : ¬ (j : Int) < (j : Int) := by omega
      have HF : Hid (hgJ a left = hgLs a.l (left - 1 - (j : Int))) := Lib.hid (by
        rw [HR.out, if_neg]
        rw [Bool.not_eq_true, List.any_eq_false]
        intro x hx
        obtain ⟨i, hi, rfl⟩ := List.getElem_of_mem hx
        have := HA.out i hi (by rw [HQ.out]; exact hi)
        simp; omega)
      go_wp2
      go_loopw [1, 7] (fun u i wq => ∃ (m : Nat) (lf : Int), m ≤ p ∧ i = .int .i64 (m : Int) ∧ u = .int .i64 lf ∧ 0 ≤ lf ∧ lf ≤ 1000 ∧ hgJ a left = hgLs (a.l.drop m) lf ∧ Below w2.heap.size w2 wq) (fun _ i _ => p - (intOf i).toNat)
      case atStart => exact ⟨0, left - 1 - (j : Int), by omega, rfl, rfl, HL.out.1, HL.out.2, HF.out, HBE.out⟩
      case round =>
        obtain ⟨m, lf, hm, rfl, rfl, f0, f1, hrun, hbel⟩ := hrel
        have HRUN := Lib.hid hrun
        have HBE2 := Lib.hid hbel
        have y1 := (hbel.cell (p := ⟨W.heap.size, 3, none⟩) (lt_of_cell HX.out.1)).trans HX.out.1
        clear hrun hbel y2
        by_cases hlt : m < p
        · have hm1 : m < a.l.length := by rw [← HP.out]; exact hlt
          obtain ⟨g, o, rfl, hg, hrep⟩ := HC.out (fun e => by rw [e] at hm1; exact absurd hm1 (Nat.not_lt_zero _))
          obtain ⟨v1, hr1, hf1⟩ := hrep.at m hm1
          have hbw := HB2.out.trans (HBE2.out.mono HB2.out.size)
          have HBW := Lib.hid hbw
          have HCALL := Lib.hid (fun (w' : World) (hb : Below W.heap.size W w') => HIH.out a.l[m] (List.getElem_mem hm1) v1 lf w' (RepJ.below hb _ _ hr1) f0 f1)
          have HBD := Lib.hid (hgJ_bd a.l[m] lf f1)
          have HST : Hid (hgJ a left = if (hgJ a.l[m] lf).1 then (true, (hgJ a.l[m] lf).2) else hgLs (a.l.drop (m + 1)) (hgJ a.l[m] lf).2) := Lib.hid (HRUN.out.trans (hgLs_drop hm1 lf))
          obtain ⟨a0, a1, a2, a3, a4, rfl, z0, z1, z2, z3, z4⟩ := hf1.below hg hbw
          obtain ⟨f, hff⟩ : ∃ f, f = (hgJ a.l[m] lf).1 := ⟨_, rfl⟩
          obtain ⟨r, hrr⟩ : ∃ r, r = (hgJ a.l[m] lf).2 := ⟨_, rfl⟩
          rw [← hff, ← hrr] at HCALL HBD HST
          clear hrep hr1 hf1 hbw hff hrr
          have w0 : (0 : Int) ≤ (m : Int) := by omega
          have w1 : (m : Int) < (p : Int) := by omega
          by_cases hf : f = true
          · obtain rfl := hf
            have HF2 : Hid (hgJ a left = (true, r)) := Lib.hid (by rw [HST.out, if_pos rfl])
            go_wp2_with (go_at_call 35; (with_reducible refine (HCALL.out _ HBW.out).mono ?_); rintro e w' ⟨rfl, hb⟩; have HB := Lib.hid hb; clear hb)
            go_ret2
            rw [HF2.out]
            exact ⟨rfl, HBW.out.trans (HB.out.mono HBW.out.size)⟩
          · obtain rfl : f = false := by simpa using hf
            obtain ⟨r0, r1⟩ := HBD.out rfl
            have HF2 : Hid (hgJ a left = hgLs (a.l.drop (m + 1)) r) := Lib.hid (by rw [HST.out, if_neg (by decide)])
            go_wp2_with (go_at_call 35; (with_reducible refine (HCALL.out _ HBW.out).mono ?_); rintro e w' ⟨rfl, hb⟩; have HB := Lib.hid hb; clear hb)
            exact ⟨⟨m + 1, r, by omega, by go_num, rfl, r0, r1, HF2.out, HBE2.out.trans (HB.out.mono HBE2.out.size)⟩, by simp [intOf]; omega⟩
        · obtain rfl : m = p := by omega
          have HF2 : Hid (hgJ a left = (false, lf)) := Lib.hid (by rw [HRUN.out, List.drop_eq_nil_of_le (by rw [HP.out]; exact Nat.le_refl _), hgLs])
          have hge2 : ¬ (m : Int) < (m : Int) := by omega
          go_wp2
          go_ret2
          rw [HF2.out]
          exact ⟨rfl, HB2.out.trans (HBE2.out.mono HB2.out.size)⟩
theorem refHuge_any (a : J) : ∀ (va : Value) (left : Int) (W : World), RepJ W a va → 0 ≤ left → left ≤ 1000 → Calls Tryz.prog 35 #[va, .int .i64 left] W fun e w' => e = .returned (.tuple #[.bool (hgJ a left).1, .int .i64 (hgJ a left).2]) ∧ Below W.heap.size W w' := by
  induction a using J.ind with
  | h kind n s l k ih =>
    intro va left W ha h0 h1
    by_cases h : left - 1 - min ((J.mk kind n s l k).k.length : Int) 5000 < 0 ∨ 5000 < (J.mk kind n s l k).s.size ∨ 1000 < (J.mk kind n s l k).k.length ∨ 1000 < (J.mk kind n s l k).l.length
    · exact refHuge_early _ va left W ha h0 h1 h
    · exact refHuge_late (J.mk kind n s l k) ih va left W ha h0 h1 h
set_option maxHeartbeats 1000000 in
theorem refGreat_any (a : J) (va : Value) (W : World) (ha : RepJ W a va) : Calls Tryz.prog 16 #[va] W fun e w' => e = .returned (.bool (hgJ a 1000).1) ∧ Below W.heap.size W w' := by
  have HC := Lib.hid (fun (w' : World) (hb : Below W.heap.size W w') => refHuge_any a va 1000 w' (RepJ.below hb _ _ ha) (by decide) (by decide))
  obtain ⟨vk, A, c, rfl, hs, hk, hl, hc⟩ := ha.open
  obtain ⟨K, d, rfl, hkl, hkc⟩ := hk.open
  obtain ⟨r, hr⟩ : ∃ r, r = hgJ a 1000 := ⟨_, rfl⟩
  rw [← hr] at HC ⊢
  obtain ⟨f, r⟩ := r
  clear ha hk hkc hc hr hs hl hkl
  have hB1 := Lib.hid (belowAlloc W (.cells #[.int .i64 a.kind, .int .i64 a.n, .string a.s, .slice A a.l.length c, .slice K a.k.length d] 26))
  go_enter Tryz.func16, Tryz.ntmps16
  go_wp2_with (go_at_call 35; (with_reducible refine (HC.out _ hB1.out).mono ?_); rintro e w' ⟨rfl, hb⟩; have HB := Lib.hid hb; clear hb)
  go_ret
  exact ⟨rfl, hB1.out.trans (HB.out.mono hB1.out.size)⟩
end Go.Proofs.YtblheibknpphkaaGreatDoor
