/- JsonRight2: merged. -/
import Derived.Test.YtblheibknpphkaaGreatDoorBa10
import Derived.Test.YtblheibknpphkaaGreatDoorBa41
import Derived.Test.YtblheibknpphkaaGreatDoorBa64
set_option linter.all false
namespace Go.Proofs.YtblheibknpphkaaGreatDoor
open Go Go.RowKit
theorem less_other {a b : ByteArray} (h : Op.bytesLess a.toList b.toList = true) : Op.bytesLess b.toList a.toList = false ∧ (b.toList == a.toList) = false := by
  constructor
  · cases h2 : Op.bytesLess b.toList a.toList with
    | false => rfl
    | true => have := less_trans _ _ _ h h2; rw [less_self] at this; cases this
  · rw [beq_eq_false_iff_ne]
    intro e
    rw [e, less_self] at h; cases h
theorem less_not {a b : ByteArray} (h : Op.bytesLess a.toList b.toList = false) : (Op.bytesLess b.toList a.toList = true) ∨ (Op.bytesLess b.toList a.toList = false ∧ (b.toList == a.toList) = true) := by
  by_cases e : a = b
  · subst e; exact .inr ⟨less_self _, by simp⟩
  · exact .inl (less_total e h)
set_option maxRecDepth 100000 in
set_option maxHeartbeats 16000000 in
theorem refRight_many (kind n : Int) (s : ByteArray) (l : List J) (k : List ByteArray) (ih : ∀ x ∈ l, RRAsk x) (hk4 : kind = 4 ∨ kind = 5) : RRAsk (.mk kind n s l k) := fun d left W v hj d1 d9 h0 h1 => by
  obtain ⟨vk, A, c, rfl, hs, hkk, hl, hc⟩ := hj.open
  obtain ⟨K, dd, rfl, hkl, hkc⟩ := hkk.open
  obtain ⟨r, hr⟩ : ∃ r, r = rgt (.mk kind n s l k) d left := ⟨_, rfl⟩
  have hrg := hr
  rw [rgt] at hrg
  rw [← hr]
  obtain ⟨p, hp⟩ : ∃ p, p = l.length := ⟨_, rfl⟩
  obtain ⟨q, hq⟩ : ∃ q, q = k.length := ⟨_, rfl⟩
  change Calls _ _ #[.agg #[.int .i64 kind, .int .i64 n, .string s, .slice A l.length c, .slice K k.length dd], _, _] _ _
  replace hs : s.size ≤ 9223372036854775807 := hs
  replace hkc : ∀ i (hi : i < k.length), ∃ b o, K = some ⟨b, o, none⟩ ∧ b < W.heap.size ∧ k[i].size ≤ 9223372036854775807 ∧ W.cell? ⟨b, o + i, none⟩ = some (.string k[i]) := hkc
  replace hc : l ≠ [] → ∃ b o, A = some ⟨b, o, none⟩ ∧ b < W.heap.size ∧ RepC W b o l := hc
  replace hl : l.length ≤ 9223372036854775807 := hl
  replace hkl : k.length ≤ 9223372036854775807 := hkl
  have HKC := Lib.hid hkc
  have HC := Lib.hid hc
  have HIH := Lib.hid ih
  rw [← hp] at hl
  rw [← hq] at hkl
  rw [← hp, ← hq, cleanF_eq] at hrg
  rw [← hp, ← hq]
  have HRG := Lib.hid hrg
  have HP := Lib.hid hp
  have HQ := Lib.hid hq
  obtain ⟨B, hBB⟩ : ∃ z, z = W.heap.size := ⟨_, rfl⟩
  obtain ⟨w2, hw2⟩ : ∃ z, z = W.alloc (.cells #[.int .i64 kind, .int .i64 n, .string s, .slice A p c, .slice K q dd] 26) := ⟨_, rfl⟩
  have hX2 : Blk w2 B 26 [.int .i64 kind, .int .i64 n, .string s, .slice A p c, .slice K q dd] := by rw [hw2, hBB]; exact heapAtJ W _ _
  have HB2 : Hid (Below W.heap.size W w2) := Lib.hid (by rw [hw2]; exact belowAlloc W _)
  have HX := Lib.hid hX2
  have HW2 := Lib.hid hw2
  have HBB := Lib.hid hBB
  obtain ⟨c0, c1, c2, c3, c4⟩ : w2.cell? ⟨B, 0, none⟩ = some (.int .i64 kind) ∧ w2.cell? ⟨B, 1, none⟩ = some (.int .i64 n) ∧ w2.cell? ⟨B, 2, none⟩ = some (.string s) ∧ w2.cell? ⟨B, 3, none⟩ = some (.slice A p c) ∧ w2.cell? ⟨B, 4, none⟩ = some (.slice K q dd) := ⟨hX2.cell 0, hX2.cell 1, hX2.cell 2, hX2.cell 3, hX2.cell 4⟩
  have HSTR := Lib.hid (fun (h : s ≠ ⟨#[]⟩) => str_full h)
  have HBADS := Lib.hid (fun W : World => refBad_any s W hs)
  have HUTS := Lib.hid (badR_utf s)
  obtain ⟨bs, hbs⟩ : ∃ b, b = badR (strL s) := ⟨_, rfl⟩
  rw [← hbs] at HBADS HUTS
  obtain ⟨us, hus⟩ : ∃ b, b = utfS s := ⟨_, rfl⟩
  rw [← hus] at HUTS
  have HUS := Lib.hid hus
  have HIq : Hid ((0 : Int) ≤ (q : Int) ∧ (0 : Int) ≤ (p : Int)) := Lib.hid (by omega)
  clear hj hkk hc ih hr hrg hp hq hX2 hw2 hBB hkc hbs hus
  go_enter Tryz.func39, Tryz.ntmps39
  go_upto_region 1 with fail
  rw [show W.alloc (.cells #[.int .i64 kind, .int .i64 n, .string s, .slice A p c, .slice K q dd] 26) = w2 from HW2.out.symm, show W.heap.size = B from HBB.out.symm]
  by_cases hA : left - 1 < 0
  · have HR : Hid (r = (false, left - 1)) := Lib.hid (by rw [HRG.out, if_pos (.inl hA)])
    go_wp2
    go_ret2
    rw [HR.out]
    exact ⟨_, rfl, fun h => (by cases h), HB2.out⟩
  have g0 : (kind == 0) = false := by rw [beq_eq_false_iff_ne]; omega
  have g1 : (kind == 1) = false := by rw [beq_eq_false_iff_ne]; omega
  have g2 : (kind == 2) = false := by rw [beq_eq_false_iff_ne]; omega
  have g3 : (kind == 3) = false := by rw [beq_eq_false_iff_ne]; omega
  have hkd : 4 ≤ kind ∧ kind ≤ 5 := by omega
  by_cases hd8 : 8 < d
  · have HR : Hid (r = (false, left - 1)) := Lib.hid (by
      rw [HRG.out]
      (repeat' split)
      all_goals first | rfl | (exfalso; omega))
    rcases hk4 with rfl | rfl
    all_goals (go_wp2; go_ret2; rw [HR.out]; exact ⟨_, rfl, fun h => (by cases h), HB2.out⟩)
  by_cases hn0 : n = 0
  case neg =>
    have gn : (n == 0) = false := by rw [beq_eq_false_iff_ne]; exact hn0
    have HR : Hid (r = (false, left - 1)) := Lib.hid (by rw [HRG.out, if_pos (.inr (by rw [decide_eq_false (show ¬ kind = 1 by omega), decide_eq_false (show ¬ kind = 2 by omega), decide_eq_false hn0]; rfl))])
    rcases hk4 with rfl | rfl
    all_goals (go_wp2; go_ret2; rw [HR.out]; exact ⟨_, rfl, fun h => (by cases h), HB2.out⟩)
  case pos =>
  subst hn0
  by_cases hse : s = ⟨#[]⟩
  case neg =>
    obtain ⟨t1, t2, t3⟩ := HSTR.out hse
    have HR : Hid (r = (false, left - 1)) := Lib.hid (by rw [HRG.out, if_pos (.inr (by rw [decide_eq_false (show ¬ kind = 3 by omega), decide_eq_false hse]; simp))])
    rcases hk4 with rfl | rfl
    all_goals (go_wp2; go_ret2; rw [HR.out]; exact ⟨_, rfl, fun h => (by cases h), HB2.out⟩)
  case pos =>
  subst hse
  have HX4 := Lib.hid c4
  have HX3 := Lib.hid c3
  rcases hk4 with rfl | rfl
  · by_cases hQ : (0 : Int) < (q : Int)
    · have HR : Hid (r = (false, left - 1)) := Lib.hid (by rw [HRG.out, if_pos (.inr (by simp; omega))])
      go_wp2
      go_ret2
      rw [HR.out]
      exact ⟨_, rfl, fun h => (by cases h), HB2.out⟩
    have HRG2 : Hid (r = if rnL none k = true then rgtLs l (d + 1) (left - 1) else (false, left - 1)) := Lib.hid (by
      have hk0 : k = [] := List.eq_nil_of_length_eq_zero (by rw [← HQ.out]; omega)
      rw [HRG.out, if_neg (by simp; omega), if_neg (by simp), if_pos (.inl rfl), if_pos (show d ≤ 8 by omega), hk0, rnL_nil, if_pos rfl])
    go_wp2
    go_loopw [8] (fun v wr => ∃ j : Nat, j ≤ q ∧ v = .int .i64 (j : Int) ∧ rnL none k = rnL (if j = 0 then none else k[j - 1]?) (k.drop j) ∧ Below w2.heap.size w2 wr) (fun v _ => q - (intOf v).toNat)
    case atStart => exact ⟨0, Nat.zero_le _, rfl, rfl, Below.refl _ _⟩
    case round =>
      obtain ⟨j, hj, rfl, hrun, hbel⟩ := hrel
      have HRUN := Lib.hid hrun
      have HBE := Lib.hid hbel
      have y0 := (hbel.cell (p := ⟨B, 4, none⟩) (lt_of_cell HX4.out)).trans HX4.out
      clear hrun hbel
      by_cases hlt : j < q
      · exact absurd hlt (by omega)
      · obtain rfl : j = q := by omega
        have hrt : rnL none k = true := by rw [HRUN.out, List.drop_of_length_le (by rw [← HQ.out]; exact Nat.le_refl _)]; exact rnL_nil _
        have HR0 : Hid (r = rgtLs (l.drop 0) (d + 1) (left - 1)) := Lib.hid (by rw [HRG2.out, hrt]; rfl)
        have hge : ¬ (j : Int) < (j : Int) := by omega
        clear hrt hlt
        go_wp2
        clear y0
        go_loopw [2, 9] (fun lf i wq => ∃ (m : Nat) (f : Int), m ≤ p ∧ i = .int .i64 (m : Int) ∧ lf = .int .i64 f ∧ 0 ≤ f ∧ f ≤ 256 ∧ r = rgtLs (l.drop m) (d + 1) f ∧ Below w2.heap.size w2 wq) (fun _ i _ => p - (intOf i).toNat)
        case atStart => exact ⟨0, left - 1, by omega, rfl, rfl, by omega, by omega, HR0.out, HBE.out⟩
        case round =>
          obtain ⟨m, f, hm, rfl, rfl, f0, f1, hrun, hbel⟩ := hrel
          have HRUN2 := Lib.hid hrun
          have HBE2 := Lib.hid hbel
          have y1 := (hbel.cell (p := ⟨B, 3, none⟩) (lt_of_cell HX3.out)).trans HX3.out
          clear hrun hbel
          by_cases hlt2 : m < p
          · have hm1 : m < l.length := by rw [← HP.out]; exact hlt2
            obtain ⟨g, o, rfl, hg, hrep⟩ := HC.out (fun e => by rw [e] at hm1; exact absurd hm1 (Nat.not_lt_zero _))
            obtain ⟨v1, hr1, hf1⟩ := hrep.at m hm1
            have hbw := HB2.out.trans (HBE2.out.mono HB2.out.size)
            have HBW := Lib.hid hbw
            have HCALL := Lib.hid (fun (w' : World) (hb : Below W.heap.size W w') => HIH.out l[m] (List.getElem_mem hm1) (d + 1) f w' v1 (RepJ.below hb _ _ hr1) (by omega) (by omega) f0 f1)
            have HBD := Lib.hid (rgt_iff l[m] (d + 1) f (by omega) (by omega) f0)
            have HST : Hid (r = if (rgt l[m] (d + 1) f).1 = true then rgtLs (l.drop (m + 1)) (d + 1) (rgt l[m] (d + 1) f).2 else (false, (rgt l[m] (d + 1) f).2)) := Lib.hid (by rw [HRUN2.out, List.drop_eq_getElem_cons hm1, rgtLs])
            obtain ⟨a0, a1, a2, a3, a4, rfl, z0, z1, z2, z3, z4⟩ := hf1.below hg hbw
            obtain ⟨z, hz⟩ : ∃ z, z = rgt l[m] (d + 1) f := ⟨_, rfl⟩
            obtain ⟨sz, hsz⟩ : ∃ z : Int, z = (szJ l[m] : Int) ∧ 0 ≤ z := ⟨_, rfl, by omega⟩
            rw [← hz] at HCALL HBD HST
            rw [← hsz.1] at HBD
            have HSZ := Lib.hid hsz.2
            obtain ⟨ok, lf⟩ := z
            have i0 : (0 : Int) ≤ (m : Int) := by omega
            have i1 : (m : Int) < (p : Int) := by omega
            clear hrep hr1 hf1 hbw hz hsz
            cases ok with
            | false =>
              have HR : Hid (r = (false, lf)) := Lib.hid (by rw [HST.out]; rfl)
              go_wp2_with (go_at_call 39; (with_reducible refine (HCALL.out _ HBW.out).mono ?_); rintro e w4 ⟨m', rfl, _, hb⟩; have HB4 := Lib.hid (HBW.out.trans (hb.mono HBW.out.size)); clear hb)
              go_ret2
              rw [HR.out]
              exact ⟨_, rfl, fun h => (by cases h), HB4.out⟩
            | true =>
              have hle : 0 ≤ lf ∧ lf ≤ 256 := by
                have h1 := HBD.out.2 rfl
                have h2 := (HBD.out.1.1 rfl).2.1
                have := HSZ.out
                simp only at h1
                omega
              have HR : Hid (r = rgtLs (l.drop (m + 1)) (d + 1) lf) := Lib.hid (by rw [HST.out]; rfl)
              go_wp2_with (go_at_call 39; (with_reducible refine (HCALL.out _ HBW.out).mono ?_); rintro e w4 ⟨m', rfl, hm', hb⟩; obtain rfl : m' = lf := hm' rfl; have HB4 := Lib.hid (HBE2.out.trans (hb.mono HBE2.out.size)); clear hb hm')
              go_roundw
              case rel => exact ⟨m + 1, m', by omega, by go_num, rfl, hle.1, hle.2, HR.out, HB4.out⟩
              case measure => simp [intOf]; omega
          · obtain rfl : m = p := by omega
            have HR : Hid (r = (true, f)) := Lib.hid (by rw [HRUN2.out, List.drop_eq_nil_of_le (by rw [← HP.out]; exact Nat.le_refl _), rgtLs])
            have hge2 : ¬ (m : Int) < (m : Int) := by omega
            go_wp2
            go_ret2
            rw [HR.out]
            exact ⟨_, rfl, fun _ => rfl, HB2.out.trans (HBE2.out.mono HB2.out.size)⟩
  · by_cases hQ : (q : Int) = (p : Int)
    case neg =>
      have gq : ((q : Int) == (p : Int)) = false := by rw [beq_eq_false_iff_ne]; exact hQ
      have HR : Hid (r = (false, left - 1)) := Lib.hid (by
        rw [HRG.out]
        (repeat' split)
        all_goals first | rfl | (exfalso; omega))
      go_wp2
      go_ret2
      rw [HR.out]
      exact ⟨_, rfl, fun h => (by cases h), HB2.out⟩
    case pos =>
    have gq : ((q : Int) == (p : Int)) = true := by rw [beq_iff_eq]; exact hQ
    have HRG2 : Hid (r = if rnL none k = true then rgtLs l (d + 1) (left - 1) else (false, left - 1)) := Lib.hid (by
      rw [HRG.out, if_neg (by simp; omega)]
      cases hrn : rnL none k with
      | false => rw [if_pos ⟨rfl, .inr rfl⟩, if_neg (by simp)]
      | true => rw [if_neg (fun hh => hh.2.elim (fun h => h (by omega)) (fun h => (by cases h))), if_pos (.inr rfl), if_pos (show d ≤ 8 by omega), if_pos rfl])
    go_wp2
    go_loopw [8] (fun v wr => ∃ j : Nat, j ≤ q ∧ v = .int .i64 (j : Int) ∧ rnL none k = rnL (if j = 0 then none else k[j - 1]?) (k.drop j) ∧ Below w2.heap.size w2 wr) (fun v _ => q - (intOf v).toNat)
    case atStart => exact ⟨0, Nat.zero_le _, rfl, rfl, Below.refl _ _⟩
    case round =>
      obtain ⟨j, hj, rfl, hrun, hbel⟩ := hrel
      have HRUN := Lib.hid hrun
      have HBE := Lib.hid hbel
      have y0 := (hbel.cell (p := ⟨B, 4, none⟩) (lt_of_cell HX4.out)).trans HX4.out
      clear hrun hbel
      by_cases hlt : j < q
      · have hkl2 : j < k.length := by rw [← HQ.out]; exact hlt
        obtain ⟨g, o, rfl, hg, hsz, hcell⟩ := HKC.out j hkl2
        have y1 := ((HB2.out.trans (HBE.out.mono HB2.out.size)).cell (p := ⟨g, o + j, none⟩) hg).trans hcell
        have hdr : k.drop j = k[j] :: k.drop (j + 1) := List.drop_eq_getElem_cons hkl2
        have hnx : (if j + 1 = 0 then none else k[j + 1 - 1]?) = some k[j] := by rw [if_neg (by omega), Nat.add_sub_cancel]; exact List.getElem?_eq_getElem hkl2
        have hprev : 0 < j → ∃ pp, k[j - 1]? = some pp ∧ ∀ W', Below W.heap.size W W' → W'.cell? ⟨g, o + (j - 1), none⟩ = some (.string pp) := fun h0 => by
          obtain ⟨g', o', e', hg', _, hcell'⟩ := HKC.out (j - 1) (by omega)
          injection e' with e'
          injection e' with e1 e2
          subst e1; subst e2
          exact ⟨_, List.getElem?_eq_getElem (by omega), fun W' hW => (hW.cell (p := ⟨g, o + (j - 1), none⟩) hg').trans hcell'⟩
        obtain ⟨t, ht⟩ : ∃ t, t = k[j] := ⟨_, rfl⟩
        rw [← ht] at y1 hdr hnx hsz
        have HBAD := Lib.hid (fun W : World => refBad_any t W hsz)
        have hub := badR_utf t
        obtain ⟨bt, hbt⟩ : ∃ b, b = badR (strL t) := ⟨_, rfl⟩
        rw [← hbt] at HBAD hub
        have HRN := Lib.hid hnx
        have HD := Lib.hid hdr
        have hi0 : (0 : Int) ≤ (j : Int) := by omega
        have hi1 : (j : Int) < (q : Int) := by omega
        clear hcell hdr hnx ht hsz hbt
        cases hu : utfS t with
        | false =>
          have hbn : (0 : Int) ≤ bt := by
              rw [hu] at hub
              have : ¬ bt < 0 := fun h => by have := hub.1 h; cases this
              omega
          have dbn : decide (bt ≥ 0) = true := decide_eq_true hbn
          have hrf : rnL none k = false := by rw [HRUN.out, HD.out, rnL_cons, hu]; simp
          have HR : Hid (r = (false, left - 1)) := Lib.hid (by rw [HRG2.out, hrf]; rfl)
          clear hu hub hprev hrf
          go_wp2
          refine wp_region_held_drew (S := fun w' => w'.cell? ⟨B, 4, none⟩ = some (.slice (some ⟨g, o, none⟩) q dd) ∧ w'.cell? ⟨g, o + j, none⟩ = some (.string t)) (by kernel_rfl) (by exact ⟨y0, y1⟩) (fun hHeld => ?_)
          refine wpAnyH_take (i := 0) (v := ?v1) rfl (by kernel_rfl) (by kernel_rfl) (by kernel_rfl) (fun _ _ _ h => h) (Or.inl ⟨by rfl, ?hy1⟩) (by assumption) ?rest1
          case hy1 => (intro w hSw; (try dsimp only at hSw); first | (go_simp; done) | (go_simp; with_reducible rfl))
          try simp only [List.getElem_toArray, List.getElem_cons_succ, List.getElem_cons_zero, Act.put, List.setIfInBounds_toArray, List.set_cons_zero, List.set_cons_succ]
          refine wpAnyH_take (i := 1) (v := ?v2) rfl (by kernel_rfl) (by kernel_rfl) (by kernel_rfl) (fun _ _ _ h => h) (Or.inl ⟨by rfl, ?hy2⟩) (by assumption) ?rest2
          case hy2 => (intro w hSw; (try dsimp only at hSw); first | (go_simp; done) | (go_simp; with_reducible rfl))
          try simp only [List.getElem_toArray, List.getElem_cons_succ, List.getElem_cons_zero, Act.put, List.setIfInBounds_toArray, List.set_cons_zero, List.set_cons_succ]
          refine wpAnyH_take (i := 2) (v := ?v3) rfl (by kernel_rfl) (by kernel_rfl) (by kernel_rfl) (fun _ _ _ h => h) (Or.inl ⟨by rfl, ?hy3⟩) (by assumption) ?rest3
          case hy3 => (intro w hSw; (try dsimp only at hSw); first | (go_simp; done) | (go_simp; with_reducible rfl))
          try simp only [List.getElem_toArray, List.getElem_cons_succ, List.getElem_cons_zero, Act.put, List.setIfInBounds_toArray, List.set_cons_zero, List.set_cons_succ]
          refine wpAnyH_take (i := 3) (v := ?v4) rfl (by kernel_rfl) (by kernel_rfl) (by kernel_rfl) (fun _ _ _ h => h) (Or.inl ⟨by rfl, ?hy4⟩) (by assumption) ?rest4
          case hy4 => (intro w hSw; (try dsimp only at hSw); first | (go_simp; done) | (go_simp; with_reducible rfl))
          try simp only [List.getElem_toArray, List.getElem_cons_succ, List.getElem_cons_zero, Act.put, List.setIfInBounds_toArray, List.set_cons_zero, List.set_cons_succ]
          refine wpAnyH_take (i := 4) (v := ?v5) rfl (by kernel_rfl) (by kernel_rfl) (by kernel_rfl) (fun _ _ _ h => h) (Or.inl ⟨by rfl, ?hy5⟩) (by assumption) ?rest5
          case hy5 => (intro w hSw; (try dsimp only at hSw); first | (go_simp; done) | (go_simp; with_reducible rfl))
          try simp only [List.getElem_toArray, List.getElem_cons_succ, List.getElem_cons_zero, Act.put, List.setIfInBounds_toArray, List.set_cons_zero, List.set_cons_succ]
          refine wpAnyH_ready (rs := [5]) (by kernel_rfl) (by simp) ?_
          refine AllReadyH.cons rfl (fun K hK => ?_) AllReadyH.nil
          go_simp
          go_at_call 74
          refine (HBAD.out _).mono ?_
          rintro e w4 ⟨rfl, hb⟩
          (try go_wp2_with fail)
          refine hK.out _ _ (by exact ⟨((hb.cell (lt_of_cell y0)).trans y0), ((hb.cell (lt_of_cell y1)).trans y1)⟩) (fun hHeld2 => ?_)
          clear hK K hHeld
          try simp only [List.getElem_toArray, List.getElem_cons_succ, List.getElem_cons_zero, Act.put, List.setIfInBounds_toArray, List.set_cons_zero, List.set_cons_succ]
          refine wpAnyH_take (i := 6) (v := ?v6) rfl (by kernel_rfl) (by kernel_rfl) (by kernel_rfl) (fun _ _ _ h => h) (Or.inl ⟨by rfl, ?hy6⟩) (by assumption) ?rest6
          case hy6 => (intro w hSw; (try dsimp only at hSw); first | (go_simp; done) | (go_simp; with_reducible rfl))
          try simp only [List.getElem_toArray, List.getElem_cons_succ, List.getElem_cons_zero, Act.put, List.setIfInBounds_toArray, List.set_cons_zero, List.set_cons_succ]
          refine wpAnyH_take (i := 7) (v := ?v7) rfl (by kernel_rfl) (by kernel_rfl) (by kernel_rfl) (fun _ _ _ h => h) (Or.inl ⟨by rfl, ?hy7⟩) (by assumption) ?rest7
          case hy7 => (intro w hSw; (try dsimp only at hSw); first | (go_simp; done) | (go_simp; with_reducible rfl))
          try simp only [List.getElem_toArray, List.getElem_cons_succ, List.getElem_cons_zero, Act.put, List.setIfInBounds_toArray, List.set_cons_zero, List.set_cons_succ]
          refine wpAnyH_take (i := 8) (v := undef) rfl (by kernel_rfl) (by kernel_rfl) (by kernel_rfl) (fun _ _ _ h => h) (Or.inr ⟨by rfl, rfl⟩) (by assumption) ?rest8
          try simp only [List.getElem_toArray, List.getElem_cons_succ, List.getElem_cons_zero, Act.put, List.setIfInBounds_toArray, List.set_cons_zero, List.set_cons_succ]
          refine wpAnyH_take (i := 9) (v := undef) rfl (by kernel_rfl) (by kernel_rfl) (by kernel_rfl) (fun _ _ _ h => h) (Or.inr ⟨by rfl, rfl⟩) (by assumption) ?rest9
          try simp only [List.getElem_toArray, List.getElem_cons_succ, List.getElem_cons_zero, Act.put, List.setIfInBounds_toArray, List.set_cons_zero, List.set_cons_succ]
          refine wpAnyH_take (i := 10) (v := undef) rfl (by kernel_rfl) (by kernel_rfl) (by kernel_rfl) (fun _ _ _ h => h) (Or.inr ⟨by rfl, rfl⟩) (by assumption) ?rest10
          try simp only [List.getElem_toArray, List.getElem_cons_succ, List.getElem_cons_zero, Act.put, List.setIfInBounds_toArray, List.set_cons_zero, List.set_cons_succ]
          refine wpAnyH_take (i := 11) (v := undef) rfl (by kernel_rfl) (by kernel_rfl) (by kernel_rfl) (fun _ _ _ h => h) (Or.inr ⟨by rfl, rfl⟩) (by assumption) ?rest11
          try simp only [List.getElem_toArray, List.getElem_cons_succ, List.getElem_cons_zero, Act.put, List.setIfInBounds_toArray, List.set_cons_zero, List.set_cons_succ]
          refine wpAnyH_take (i := 12) (v := undef) rfl (by kernel_rfl) (by kernel_rfl) (by kernel_rfl) (fun _ _ _ h => h) (Or.inr ⟨by rfl, rfl⟩) (by assumption) ?rest12
          try simp only [List.getElem_toArray, List.getElem_cons_succ, List.getElem_cons_zero, Act.put, List.setIfInBounds_toArray, List.set_cons_zero, List.set_cons_succ]
          refine wpAnyH_take (i := 13) (v := undef) rfl (by kernel_rfl) (by kernel_rfl) (by kernel_rfl) (fun _ _ _ h => h) (Or.inr ⟨by rfl, rfl⟩) (by assumption) ?rest13
          try simp only [List.getElem_toArray, List.getElem_cons_succ, List.getElem_cons_zero, Act.put, List.setIfInBounds_toArray, List.set_cons_zero, List.set_cons_succ]
          refine wpAnyH_take (i := 14) (v := undef) rfl (by kernel_rfl) (by kernel_rfl) (by kernel_rfl) (fun _ _ _ h => h) (Or.inr ⟨by rfl, rfl⟩) (by assumption) ?rest14
          try simp only [List.getElem_toArray, List.getElem_cons_succ, List.getElem_cons_zero, Act.put, List.setIfInBounds_toArray, List.set_cons_zero, List.set_cons_succ]
          refine wpAnyH_take (i := 15) (v := undef) rfl (by kernel_rfl) (by kernel_rfl) (by kernel_rfl) (fun _ _ _ h => h) (Or.inr ⟨by rfl, rfl⟩) (by assumption) ?rest15
          try simp only [List.getElem_toArray, List.getElem_cons_succ, List.getElem_cons_zero, Act.put, List.setIfInBounds_toArray, List.set_cons_zero, List.set_cons_succ]
          refine wpAnyH_take (i := 16) (v := undef) rfl (by kernel_rfl) (by kernel_rfl) (by kernel_rfl) (fun _ _ _ h => h) (Or.inr ⟨by rfl, rfl⟩) (by assumption) ?rest16
          try simp only [List.getElem_toArray, List.getElem_cons_succ, List.getElem_cons_zero, Act.put, List.setIfInBounds_toArray, List.set_cons_zero, List.set_cons_succ]
          refine wpAnyH_take (i := 17) (v := undef) rfl (by kernel_rfl) (by kernel_rfl) (by kernel_rfl) (fun _ _ _ h => h) (Or.inr ⟨by rfl, rfl⟩) (by assumption) ?rest17
          try simp only [List.getElem_toArray, List.getElem_cons_succ, List.getElem_cons_zero, Act.put, List.setIfInBounds_toArray, List.set_cons_zero, List.set_cons_succ]
          refine wpAnyH_take (i := 18) (v := undef) rfl (by kernel_rfl) (by kernel_rfl) (by kernel_rfl) (fun _ _ _ h => h) (Or.inr ⟨by rfl, rfl⟩) (by assumption) ?rest18
          try simp only [List.getElem_toArray, List.getElem_cons_succ, List.getElem_cons_zero, Act.put, List.setIfInBounds_toArray, List.set_cons_zero, List.set_cons_succ]
          refine wpAnyH_take (i := 19) (v := undef) rfl (by kernel_rfl) (by kernel_rfl) (by kernel_rfl) (fun _ _ _ h => h) (Or.inr ⟨by rfl, rfl⟩) (by assumption) ?rest19
          try simp only [List.getElem_toArray, List.getElem_cons_succ, List.getElem_cons_zero, Act.put, List.setIfInBounds_toArray, List.set_cons_zero, List.set_cons_succ]
          refine wpAnyH_take (i := 20) (v := undef) rfl (by kernel_rfl) (by kernel_rfl) (by kernel_rfl) (fun _ _ _ h => h) (Or.inr ⟨by rfl, rfl⟩) (by assumption) ?rest20
          try simp only [List.getElem_toArray, List.getElem_cons_succ, List.getElem_cons_zero, Act.put, List.setIfInBounds_toArray, List.set_cons_zero, List.set_cons_succ]
          refine wpAnyH_take (i := 21) (v := undef) rfl (by kernel_rfl) (by kernel_rfl) (by kernel_rfl) (fun _ _ _ h => h) (Or.inr ⟨by rfl, rfl⟩) (by assumption) ?rest21
          try simp only [List.getElem_toArray, List.getElem_cons_succ, List.getElem_cons_zero, Act.put, List.setIfInBounds_toArray, List.set_cons_zero, List.set_cons_succ]
          refine wpAnyH_take (i := 22) (v := undef) rfl (by kernel_rfl) (by kernel_rfl) (by kernel_rfl) (fun _ _ _ h => h) (Or.inr ⟨by rfl, rfl⟩) (by assumption) ?rest22
          try simp only [List.getElem_toArray, List.getElem_cons_succ, List.getElem_cons_zero, Act.put, List.setIfInBounds_toArray, List.set_cons_zero, List.set_cons_succ]
          refine wpAnyH_take (i := 23) (v := undef) rfl (by kernel_rfl) (by kernel_rfl) (by kernel_rfl) (fun _ _ _ h => h) (Or.inr ⟨by rfl, rfl⟩) (by assumption) ?rest23
          try simp only [List.getElem_toArray, List.getElem_cons_succ, List.getElem_cons_zero, Act.put, List.setIfInBounds_toArray, List.set_cons_zero, List.set_cons_succ]
          refine wpAnyH_take (i := 24) (v := ?v24) rfl (by kernel_rfl) (by kernel_rfl) (by kernel_rfl) (fun _ _ _ h => h) (Or.inl ⟨by rfl, ?hy24⟩) (by assumption) ?rest24
          case hy24 => (intro w hSw; (try dsimp only at hSw); first | (go_simp; done) | (go_simp; with_reducible rfl))
          try simp only [List.getElem_toArray, List.getElem_cons_succ, List.getElem_cons_zero, Act.put, List.setIfInBounds_toArray, List.set_cons_zero, List.set_cons_succ]
          refine wpAnyH_done (by kernel_rfl) ?_ _
          have HB4 := Lib.hid (HBE.out.drew.trans (hb.mono HBE.out.drew.size))
          clear hb hHeld2
          go_wp2
          go_ret2
          rw [HR.out]
          exact ⟨_, rfl, fun h => (by cases h), HB2.out.trans (HB4.out.mono HB2.out.size)⟩
        | true =>
          have hbn : ¬ (0 : Int) ≤ bt := by rw [hu] at hub; have := hub.2 rfl; omega
          have dbn : decide (bt ≥ 0) = false := decide_eq_false hbn
          by_cases hj0 : j = 0
          · have HR : Hid (rnL none k = rnL (if j + 1 = 0 then none else k[j + 1 - 1]?) (k.drop (j + 1))) := Lib.hid (by rw [HRUN.out, HD.out, rnL_cons, hu, HRN.out, if_pos hj0]; simp)
            have hgz : ¬ (0 : Int) < (j : Int) := by omega
            have dgz : decide ((j : Int) > 0) = false := decide_eq_false hgz
            clear hu hub hprev hj0
            go_wp2
            refine wp_region_held_drew (S := fun w' => w'.cell? ⟨B, 4, none⟩ = some (.slice (some ⟨g, o, none⟩) q dd) ∧ w'.cell? ⟨g, o + j, none⟩ = some (.string t)) (by kernel_rfl) (by exact ⟨y0, y1⟩) (fun hHeld => ?_)
            refine wpAnyH_take (i := 0) (v := ?v25) rfl (by kernel_rfl) (by kernel_rfl) (by kernel_rfl) (fun _ _ _ h => h) (Or.inl ⟨by rfl, ?hy25⟩) (by assumption) ?rest25
            case hy25 => (intro w hSw; (try dsimp only at hSw); first | (go_simp; done) | (go_simp; with_reducible rfl))
            try simp only [List.getElem_toArray, List.getElem_cons_succ, List.getElem_cons_zero, Act.put, List.setIfInBounds_toArray, List.set_cons_zero, List.set_cons_succ]
            refine wpAnyH_take (i := 1) (v := ?v26) rfl (by kernel_rfl) (by kernel_rfl) (by kernel_rfl) (fun _ _ _ h => h) (Or.inl ⟨by rfl, ?hy26⟩) (by assumption) ?rest26
            case hy26 => (intro w hSw; (try dsimp only at hSw); first | (go_simp; done) | (go_simp; with_reducible rfl))
            try simp only [List.getElem_toArray, List.getElem_cons_succ, List.getElem_cons_zero, Act.put, List.setIfInBounds_toArray, List.set_cons_zero, List.set_cons_succ]
            refine wpAnyH_take (i := 2) (v := ?v27) rfl (by kernel_rfl) (by kernel_rfl) (by kernel_rfl) (fun _ _ _ h => h) (Or.inl ⟨by rfl, ?hy27⟩) (by assumption) ?rest27
            case hy27 => (intro w hSw; (try dsimp only at hSw); first | (go_simp; done) | (go_simp; with_reducible rfl))
            try simp only [List.getElem_toArray, List.getElem_cons_succ, List.getElem_cons_zero, Act.put, List.setIfInBounds_toArray, List.set_cons_zero, List.set_cons_succ]
            refine wpAnyH_take (i := 3) (v := ?v28) rfl (by kernel_rfl) (by kernel_rfl) (by kernel_rfl) (fun _ _ _ h => h) (Or.inl ⟨by rfl, ?hy28⟩) (by assumption) ?rest28
            case hy28 => (intro w hSw; (try dsimp only at hSw); first | (go_simp; done) | (go_simp; with_reducible rfl))
            try simp only [List.getElem_toArray, List.getElem_cons_succ, List.getElem_cons_zero, Act.put, List.setIfInBounds_toArray, List.set_cons_zero, List.set_cons_succ]
            refine wpAnyH_take (i := 4) (v := ?v29) rfl (by kernel_rfl) (by kernel_rfl) (by kernel_rfl) (fun _ _ _ h => h) (Or.inl ⟨by rfl, ?hy29⟩) (by assumption) ?rest29
            case hy29 => (intro w hSw; (try dsimp only at hSw); first | (go_simp; done) | (go_simp; with_reducible rfl))
            try simp only [List.getElem_toArray, List.getElem_cons_succ, List.getElem_cons_zero, Act.put, List.setIfInBounds_toArray, List.set_cons_zero, List.set_cons_succ]
            refine wpAnyH_ready (rs := [5]) (by kernel_rfl) (by simp) ?_
            refine AllReadyH.cons rfl (fun K hK => ?_) AllReadyH.nil
            go_simp
            go_at_call 74
            refine (HBAD.out _).mono ?_
            rintro e w4 ⟨rfl, hb⟩
            (try go_wp2_with fail)
            refine hK.out _ _ (by exact ⟨((hb.cell (lt_of_cell y0)).trans y0), ((hb.cell (lt_of_cell y1)).trans y1)⟩) (fun hHeld2 => ?_)
            clear hK K hHeld
            try simp only [List.getElem_toArray, List.getElem_cons_succ, List.getElem_cons_zero, Act.put, List.setIfInBounds_toArray, List.set_cons_zero, List.set_cons_succ]
            refine wpAnyH_take (i := 6) (v := ?v30) rfl (by kernel_rfl) (by kernel_rfl) (by kernel_rfl) (fun _ _ _ h => h) (Or.inl ⟨by rfl, ?hy30⟩) (by assumption) ?rest30
            case hy30 => (intro w hSw; (try dsimp only at hSw); first | (go_simp; done) | (go_simp; with_reducible rfl))
            try simp only [List.getElem_toArray, List.getElem_cons_succ, List.getElem_cons_zero, Act.put, List.setIfInBounds_toArray, List.set_cons_zero, List.set_cons_succ]
            refine wpAnyH_take (i := 7) (v := ?v31) rfl (by kernel_rfl) (by kernel_rfl) (by kernel_rfl) (fun _ _ _ h => h) (Or.inl ⟨by rfl, ?hy31⟩) (by assumption) ?rest31
            case hy31 => (intro w hSw; (try dsimp only at hSw); first | (go_simp; done) | (go_simp; with_reducible rfl))
            try simp only [List.getElem_toArray, List.getElem_cons_succ, List.getElem_cons_zero, Act.put, List.setIfInBounds_toArray, List.set_cons_zero, List.set_cons_succ]
            refine wpAnyH_take (i := 8) (v := ?v32) rfl (by kernel_rfl) (by kernel_rfl) (by kernel_rfl) (fun _ _ _ h => h) (Or.inl ⟨by rfl, ?hy32⟩) (by assumption) ?rest32
            case hy32 => (intro w hSw; (try dsimp only at hSw); first | (go_simp; done) | (go_simp; with_reducible rfl))
            try simp only [List.getElem_toArray, List.getElem_cons_succ, List.getElem_cons_zero, Act.put, List.setIfInBounds_toArray, List.set_cons_zero, List.set_cons_succ]
            refine wpAnyH_take (i := 9) (v := .bool false) rfl (by kernel_rfl) (by kernel_rfl) (by kernel_rfl) (fun _ _ _ h => h) (Or.inl ⟨by rfl, ?hy33⟩) (by assumption) ?rest33
            case hy33 => (intro w hSw; (try dsimp only at hSw); go_simp; first | done | exact congrArg Value.bool dgz | (simp; omega) | simp_all)
            try simp only [List.getElem_toArray, List.getElem_cons_succ, List.getElem_cons_zero, Act.put, List.setIfInBounds_toArray, List.set_cons_zero, List.set_cons_succ]
            refine wpAnyH_take (i := 10) (v := ?v34) rfl (by kernel_rfl) (by kernel_rfl) (by kernel_rfl) (fun _ _ _ h => h) (Or.inl ⟨by rfl, ?hy34⟩) (by assumption) ?rest34
            case hy34 => (intro w hSw; (try dsimp only at hSw); first | (go_simp; done) | (go_simp; with_reducible rfl))
            try simp only [List.getElem_toArray, List.getElem_cons_succ, List.getElem_cons_zero, Act.put, List.setIfInBounds_toArray, List.set_cons_zero, List.set_cons_succ]
            refine wpAnyH_take (i := 11) (v := undef) rfl (by kernel_rfl) (by kernel_rfl) (by kernel_rfl) (fun _ _ _ h => h) (Or.inr ⟨by rfl, rfl⟩) (by assumption) ?rest35
            try simp only [List.getElem_toArray, List.getElem_cons_succ, List.getElem_cons_zero, Act.put, List.setIfInBounds_toArray, List.set_cons_zero, List.set_cons_succ]
            refine wpAnyH_take (i := 12) (v := undef) rfl (by kernel_rfl) (by kernel_rfl) (by kernel_rfl) (fun _ _ _ h => h) (Or.inr ⟨by rfl, rfl⟩) (by assumption) ?rest36
            try simp only [List.getElem_toArray, List.getElem_cons_succ, List.getElem_cons_zero, Act.put, List.setIfInBounds_toArray, List.set_cons_zero, List.set_cons_succ]
            refine wpAnyH_take (i := 13) (v := undef) rfl (by kernel_rfl) (by kernel_rfl) (by kernel_rfl) (fun _ _ _ h => h) (Or.inr ⟨by rfl, rfl⟩) (by assumption) ?rest37
            try simp only [List.getElem_toArray, List.getElem_cons_succ, List.getElem_cons_zero, Act.put, List.setIfInBounds_toArray, List.set_cons_zero, List.set_cons_succ]
            refine wpAnyH_take (i := 14) (v := undef) rfl (by kernel_rfl) (by kernel_rfl) (by kernel_rfl) (fun _ _ _ h => h) (Or.inr ⟨by rfl, rfl⟩) (by assumption) ?rest38
            try simp only [List.getElem_toArray, List.getElem_cons_succ, List.getElem_cons_zero, Act.put, List.setIfInBounds_toArray, List.set_cons_zero, List.set_cons_succ]
            refine wpAnyH_take (i := 15) (v := undef) rfl (by kernel_rfl) (by kernel_rfl) (by kernel_rfl) (fun _ _ _ h => h) (Or.inr ⟨by rfl, rfl⟩) (by assumption) ?rest39
            try simp only [List.getElem_toArray, List.getElem_cons_succ, List.getElem_cons_zero, Act.put, List.setIfInBounds_toArray, List.set_cons_zero, List.set_cons_succ]
            refine wpAnyH_take (i := 16) (v := undef) rfl (by kernel_rfl) (by kernel_rfl) (by kernel_rfl) (fun _ _ _ h => h) (Or.inr ⟨by rfl, rfl⟩) (by assumption) ?rest40
            try simp only [List.getElem_toArray, List.getElem_cons_succ, List.getElem_cons_zero, Act.put, List.setIfInBounds_toArray, List.set_cons_zero, List.set_cons_succ]
            refine wpAnyH_take (i := 17) (v := undef) rfl (by kernel_rfl) (by kernel_rfl) (by kernel_rfl) (fun _ _ _ h => h) (Or.inr ⟨by rfl, rfl⟩) (by assumption) ?rest41
            try simp only [List.getElem_toArray, List.getElem_cons_succ, List.getElem_cons_zero, Act.put, List.setIfInBounds_toArray, List.set_cons_zero, List.set_cons_succ]
            refine wpAnyH_take (i := 18) (v := undef) rfl (by kernel_rfl) (by kernel_rfl) (by kernel_rfl) (fun _ _ _ h => h) (Or.inr ⟨by rfl, rfl⟩) (by assumption) ?rest42
            try simp only [List.getElem_toArray, List.getElem_cons_succ, List.getElem_cons_zero, Act.put, List.setIfInBounds_toArray, List.set_cons_zero, List.set_cons_succ]
            refine wpAnyH_take (i := 19) (v := undef) rfl (by kernel_rfl) (by kernel_rfl) (by kernel_rfl) (fun _ _ _ h => h) (Or.inr ⟨by rfl, rfl⟩) (by assumption) ?rest43
            try simp only [List.getElem_toArray, List.getElem_cons_succ, List.getElem_cons_zero, Act.put, List.setIfInBounds_toArray, List.set_cons_zero, List.set_cons_succ]
            refine wpAnyH_take (i := 20) (v := undef) rfl (by kernel_rfl) (by kernel_rfl) (by kernel_rfl) (fun _ _ _ h => h) (Or.inr ⟨by rfl, rfl⟩) (by assumption) ?rest44
            try simp only [List.getElem_toArray, List.getElem_cons_succ, List.getElem_cons_zero, Act.put, List.setIfInBounds_toArray, List.set_cons_zero, List.set_cons_succ]
            refine wpAnyH_take (i := 21) (v := undef) rfl (by kernel_rfl) (by kernel_rfl) (by kernel_rfl) (fun _ _ _ h => h) (Or.inr ⟨by rfl, rfl⟩) (by assumption) ?rest45
            try simp only [List.getElem_toArray, List.getElem_cons_succ, List.getElem_cons_zero, Act.put, List.setIfInBounds_toArray, List.set_cons_zero, List.set_cons_succ]
            refine wpAnyH_take (i := 22) (v := undef) rfl (by kernel_rfl) (by kernel_rfl) (by kernel_rfl) (fun _ _ _ h => h) (Or.inr ⟨by rfl, rfl⟩) (by assumption) ?rest46
            try simp only [List.getElem_toArray, List.getElem_cons_succ, List.getElem_cons_zero, Act.put, List.setIfInBounds_toArray, List.set_cons_zero, List.set_cons_succ]
            refine wpAnyH_take (i := 23) (v := ?v47) rfl (by kernel_rfl) (by kernel_rfl) (by kernel_rfl) (fun _ _ _ h => h) (Or.inl ⟨by rfl, ?hy47⟩) (by assumption) ?rest47
            case hy47 => (intro w hSw; (try dsimp only at hSw); first | (go_simp; done) | (go_simp; with_reducible rfl))
            try simp only [List.getElem_toArray, List.getElem_cons_succ, List.getElem_cons_zero, Act.put, List.setIfInBounds_toArray, List.set_cons_zero, List.set_cons_succ]
            refine wpAnyH_take (i := 24) (v := ?v48) rfl (by kernel_rfl) (by kernel_rfl) (by kernel_rfl) (fun _ _ _ h => h) (Or.inl ⟨by rfl, ?hy48⟩) (by assumption) ?rest48
            case hy48 => (intro w hSw; (try dsimp only at hSw); first | (go_simp; done) | (go_simp; with_reducible rfl))
            try simp only [List.getElem_toArray, List.getElem_cons_succ, List.getElem_cons_zero, Act.put, List.setIfInBounds_toArray, List.set_cons_zero, List.set_cons_succ]
            refine wpAnyH_done (by kernel_rfl) ?_ _
            have HB4 := Lib.hid (HBE.out.drew.trans (hb.mono HBE.out.drew.size))
            clear hb hHeld2
            go_wp2
            go_roundw
            case rel => exact ⟨j + 1, by omega, by go_num, HR.out, HB4.out⟩
            case measure => simp [intOf]; omega
          · obtain ⟨pp, hpp, hpc⟩ := hprev (by omega)
            have y2 := hpc _ (HB2.out.trans (HBE.out.mono HB2.out.size))
            have hgz : (0 : Int) < (j : Int) := by omega
            have dgz : decide ((j : Int) > 0) = true := decide_eq_true hgz
            have wk : IntKind.i64.wrap ((j : Int) - 1) = ((j - 1 : Nat) : Int) := by rw [IntKind.wrap_i64]; omega
            have hk1 : (0 : Int) ≤ ((j - 1 : Nat) : Int) := by omega
            have hk2 : ((j - 1 : Nat) : Int) < (q : Int) := by omega
            have hkn : j - 1 < p := by omega
            have hkm : j - 1 < q := by omega
            cases hl2 : Op.bytesLess pp.toList t.toList with
            | true =>
              have HR : Hid (rnL none k = rnL (if j + 1 = 0 then none else k[j + 1 - 1]?) (k.drop (j + 1))) := Lib.hid (by rw [HRUN.out, HD.out, rnL_cons, hu, HRN.out, if_neg hj0, hpp]; simp [hl2])
              obtain ⟨lq1, lq2⟩ := less_other hl2
              clear hu hub hprev hpp hpc
              go_wp2
              refine wp_region_held_drew (S := fun w' => w'.cell? ⟨B, 4, none⟩ = some (.slice (some ⟨g, o, none⟩) q dd) ∧ w'.cell? ⟨g, o + j, none⟩ = some (.string t) ∧ w'.cell? ⟨g, o + (j - 1), none⟩ = some (.string pp)) (by kernel_rfl) (by exact ⟨y0, y1, y2⟩) (fun hHeld => ?_)
              refine wpAnyH_take (i := 0) (v := ?v49) rfl (by kernel_rfl) (by kernel_rfl) (by kernel_rfl) (fun _ _ _ h => h) (Or.inl ⟨by rfl, ?hy49⟩) (by assumption) ?rest49
              case hy49 => (intro w hSw; (try dsimp only at hSw); first | (go_simp; done) | (go_simp; with_reducible rfl))
              try simp only [List.getElem_toArray, List.getElem_cons_succ, List.getElem_cons_zero, Act.put, List.setIfInBounds_toArray, List.set_cons_zero, List.set_cons_succ]
              refine wpAnyH_take (i := 1) (v := ?v50) rfl (by kernel_rfl) (by kernel_rfl) (by kernel_rfl) (fun _ _ _ h => h) (Or.inl ⟨by rfl, ?hy50⟩) (by assumption) ?rest50
              case hy50 => (intro w hSw; (try dsimp only at hSw); first | (go_simp; done) | (go_simp; with_reducible rfl))
              try simp only [List.getElem_toArray, List.getElem_cons_succ, List.getElem_cons_zero, Act.put, List.setIfInBounds_toArray, List.set_cons_zero, List.set_cons_succ]
              refine wpAnyH_take (i := 2) (v := ?v51) rfl (by kernel_rfl) (by kernel_rfl) (by kernel_rfl) (fun _ _ _ h => h) (Or.inl ⟨by rfl, ?hy51⟩) (by assumption) ?rest51
              case hy51 => (intro w hSw; (try dsimp only at hSw); first | (go_simp; done) | (go_simp; with_reducible rfl))
              try simp only [List.getElem_toArray, List.getElem_cons_succ, List.getElem_cons_zero, Act.put, List.setIfInBounds_toArray, List.set_cons_zero, List.set_cons_succ]
              refine wpAnyH_take (i := 3) (v := ?v52) rfl (by kernel_rfl) (by kernel_rfl) (by kernel_rfl) (fun _ _ _ h => h) (Or.inl ⟨by rfl, ?hy52⟩) (by assumption) ?rest52
              case hy52 => (intro w hSw; (try dsimp only at hSw); first | (go_simp; done) | (go_simp; with_reducible rfl))
              try simp only [List.getElem_toArray, List.getElem_cons_succ, List.getElem_cons_zero, Act.put, List.setIfInBounds_toArray, List.set_cons_zero, List.set_cons_succ]
              refine wpAnyH_take (i := 4) (v := ?v53) rfl (by kernel_rfl) (by kernel_rfl) (by kernel_rfl) (fun _ _ _ h => h) (Or.inl ⟨by rfl, ?hy53⟩) (by assumption) ?rest53
              case hy53 => (intro w hSw; (try dsimp only at hSw); first | (go_simp; done) | (go_simp; with_reducible rfl))
              try simp only [List.getElem_toArray, List.getElem_cons_succ, List.getElem_cons_zero, Act.put, List.setIfInBounds_toArray, List.set_cons_zero, List.set_cons_succ]
              refine wpAnyH_ready (rs := [5]) (by kernel_rfl) (by simp) ?_
              refine AllReadyH.cons rfl (fun K hK => ?_) AllReadyH.nil
              go_simp
              go_at_call 74
              refine (HBAD.out _).mono ?_
              rintro e w4 ⟨rfl, hb⟩
              (try go_wp2_with fail)
              refine hK.out _ _ (by exact ⟨((hb.cell (lt_of_cell y0)).trans y0), ((hb.cell (lt_of_cell y1)).trans y1), ((hb.cell (lt_of_cell y2)).trans y2)⟩) (fun hHeld2 => ?_)
              clear hK K hHeld
              try simp only [List.getElem_toArray, List.getElem_cons_succ, List.getElem_cons_zero, Act.put, List.setIfInBounds_toArray, List.set_cons_zero, List.set_cons_succ]
              refine wpAnyH_take (i := 6) (v := ?v54) rfl (by kernel_rfl) (by kernel_rfl) (by kernel_rfl) (fun _ _ _ h => h) (Or.inl ⟨by rfl, ?hy54⟩) (by assumption) ?rest54
              case hy54 => (intro w hSw; (try dsimp only at hSw); first | (go_simp; done) | (go_simp; with_reducible rfl))
              try simp only [List.getElem_toArray, List.getElem_cons_succ, List.getElem_cons_zero, Act.put, List.setIfInBounds_toArray, List.set_cons_zero, List.set_cons_succ]
              refine wpAnyH_take (i := 7) (v := ?v55) rfl (by kernel_rfl) (by kernel_rfl) (by kernel_rfl) (fun _ _ _ h => h) (Or.inl ⟨by rfl, ?hy55⟩) (by assumption) ?rest55
              case hy55 => (intro w hSw; (try dsimp only at hSw); first | (go_simp; done) | (go_simp; with_reducible rfl))
              try simp only [List.getElem_toArray, List.getElem_cons_succ, List.getElem_cons_zero, Act.put, List.setIfInBounds_toArray, List.set_cons_zero, List.set_cons_succ]
              refine wpAnyH_take (i := 8) (v := ?v56) rfl (by kernel_rfl) (by kernel_rfl) (by kernel_rfl) (fun _ _ _ h => h) (Or.inl ⟨by rfl, ?hy56⟩) (by assumption) ?rest56
              case hy56 => (intro w hSw; (try dsimp only at hSw); first | (go_simp; done) | (go_simp; with_reducible rfl))
              try simp only [List.getElem_toArray, List.getElem_cons_succ, List.getElem_cons_zero, Act.put, List.setIfInBounds_toArray, List.set_cons_zero, List.set_cons_succ]
              refine wpAnyH_take (i := 9) (v := .bool true) rfl (by kernel_rfl) (by kernel_rfl) (by kernel_rfl) (fun _ _ _ h => h) (Or.inl ⟨by rfl, ?hy57⟩) (by assumption) ?rest57
              case hy57 => (intro w hSw; (try dsimp only at hSw); go_simp; first | done | exact congrArg Value.bool dgz | (simp; omega) | simp_all)
              try simp only [List.getElem_toArray, List.getElem_cons_succ, List.getElem_cons_zero, Act.put, List.setIfInBounds_toArray, List.set_cons_zero, List.set_cons_succ]
              refine wpAnyH_take (i := 10) (v := ?v58) rfl (by kernel_rfl) (by kernel_rfl) (by kernel_rfl) (fun _ _ _ h => h) (Or.inl ⟨by rfl, ?hy58⟩) (by assumption) ?rest58
              case hy58 => (intro w hSw; (try dsimp only at hSw); first | (go_simp; done) | (go_simp; with_reducible rfl))
              try simp only [List.getElem_toArray, List.getElem_cons_succ, List.getElem_cons_zero, Act.put, List.setIfInBounds_toArray, List.set_cons_zero, List.set_cons_succ]
              refine wpAnyH_take (i := 11) (v := ?v59) rfl (by kernel_rfl) (by kernel_rfl) (by kernel_rfl) (fun _ _ _ h => h) (Or.inl ⟨by rfl, ?hy59⟩) (by assumption) ?rest59
              case hy59 => (intro w hSw; (try dsimp only at hSw); first | (go_simp; done) | (go_simp; with_reducible rfl))
              try simp only [List.getElem_toArray, List.getElem_cons_succ, List.getElem_cons_zero, Act.put, List.setIfInBounds_toArray, List.set_cons_zero, List.set_cons_succ]
              refine wpAnyH_take (i := 12) (v := ?v60) rfl (by kernel_rfl) (by kernel_rfl) (by kernel_rfl) (fun _ _ _ h => h) (Or.inl ⟨by rfl, ?hy60⟩) (by assumption) ?rest60
              case hy60 => (intro w hSw; (try dsimp only at hSw); first | (go_simp; done) | (go_simp; with_reducible rfl))
              try simp only [List.getElem_toArray, List.getElem_cons_succ, List.getElem_cons_zero, Act.put, List.setIfInBounds_toArray, List.set_cons_zero, List.set_cons_succ]
              refine wpAnyH_take (i := 13) (v := ?v61) rfl (by kernel_rfl) (by kernel_rfl) (by kernel_rfl) (fun _ _ _ h => h) (Or.inl ⟨by rfl, ?hy61⟩) (by assumption) ?rest61
              case hy61 => (intro w hSw; (try dsimp only at hSw); first | (go_simp; done) | (go_simp; with_reducible rfl))
              try simp only [List.getElem_toArray, List.getElem_cons_succ, List.getElem_cons_zero, Act.put, List.setIfInBounds_toArray, List.set_cons_zero, List.set_cons_succ]
              refine wpAnyH_take (i := 14) (v := ?v62) rfl (by kernel_rfl) (by kernel_rfl) (by kernel_rfl) (fun _ _ _ h => h) (Or.inl ⟨by rfl, ?hy62⟩) (by assumption) ?rest62
              case hy62 => (intro w hSw; (try dsimp only at hSw); first | (go_simp; done) | (go_simp; with_reducible rfl))
              try simp only [List.getElem_toArray, List.getElem_cons_succ, List.getElem_cons_zero, Act.put, List.setIfInBounds_toArray, List.set_cons_zero, List.set_cons_succ]
              refine wpAnyH_take (i := 15) (v := ?v63) rfl (by kernel_rfl) (by kernel_rfl) (by kernel_rfl) (fun _ _ _ h => h) (Or.inl ⟨by rfl, ?hy63⟩) (by assumption) ?rest63
              case hy63 => (intro w hSw; (try dsimp only at hSw); first | (go_simp; done) | (go_simp; with_reducible rfl))
              try simp only [List.getElem_toArray, List.getElem_cons_succ, List.getElem_cons_zero, Act.put, List.setIfInBounds_toArray, List.set_cons_zero, List.set_cons_succ]
              refine wpAnyH_take (i := 16) (v := ?v64) rfl (by kernel_rfl) (by kernel_rfl) (by kernel_rfl) (fun _ _ _ h => h) (Or.inl ⟨by rfl, ?hy64⟩) (by assumption) ?rest64
              case hy64 => (intro w hSw; (try dsimp only at hSw); first | (go_simp; done) | (go_simp; with_reducible rfl))
              try simp only [List.getElem_toArray, List.getElem_cons_succ, List.getElem_cons_zero, Act.put, List.setIfInBounds_toArray, List.set_cons_zero, List.set_cons_succ]
              refine wpAnyH_take (i := 17) (v := ?v65) rfl (by kernel_rfl) (by kernel_rfl) (by kernel_rfl) (fun _ _ _ h => h) (Or.inl ⟨by rfl, ?hy65⟩) (by assumption) ?rest65
              case hy65 => (intro w hSw; (try dsimp only at hSw); first | (go_simp; done) | (go_simp; with_reducible rfl))
              try simp only [List.getElem_toArray, List.getElem_cons_succ, List.getElem_cons_zero, Act.put, List.setIfInBounds_toArray, List.set_cons_zero, List.set_cons_succ]
              refine wpAnyH_take (i := 18) (v := ?v66) rfl (by kernel_rfl) (by kernel_rfl) (by kernel_rfl) (fun _ _ _ h => h) (Or.inl ⟨by rfl, ?hy66⟩) (by assumption) ?rest66
              case hy66 => (intro w hSw; (try dsimp only at hSw); first | (go_simp; done) | (go_simp; with_reducible rfl))
              try simp only [List.getElem_toArray, List.getElem_cons_succ, List.getElem_cons_zero, Act.put, List.setIfInBounds_toArray, List.set_cons_zero, List.set_cons_succ]
              refine wpAnyH_take (i := 19) (v := ?v67) rfl (by kernel_rfl) (by kernel_rfl) (by kernel_rfl) (fun _ _ _ h => h) (Or.inl ⟨by rfl, ?hy67⟩) (by assumption) ?rest67
              case hy67 => (intro w hSw; (try dsimp only at hSw); first | (go_simp; done) | (go_simp; with_reducible rfl))
              try simp only [List.getElem_toArray, List.getElem_cons_succ, List.getElem_cons_zero, Act.put, List.setIfInBounds_toArray, List.set_cons_zero, List.set_cons_succ]
              refine wpAnyH_take (i := 20) (v := ?v68) rfl (by kernel_rfl) (by kernel_rfl) (by kernel_rfl) (fun _ _ _ h => h) (Or.inl ⟨by rfl, ?hy68⟩) (by assumption) ?rest68
              case hy68 => (intro w hSw; (try dsimp only at hSw); first | (go_simp; done) | (go_simp; with_reducible rfl))
              try simp only [List.getElem_toArray, List.getElem_cons_succ, List.getElem_cons_zero, Act.put, List.setIfInBounds_toArray, List.set_cons_zero, List.set_cons_succ]
              refine wpAnyH_take (i := 21) (v := ?v69) rfl (by kernel_rfl) (by kernel_rfl) (by kernel_rfl) (fun _ _ _ h => h) (Or.inl ⟨by rfl, ?hy69⟩) (by assumption) ?rest69
              case hy69 => (intro w hSw; (try dsimp only at hSw); first | (go_simp; done) | (go_simp; with_reducible rfl))
              try simp only [List.getElem_toArray, List.getElem_cons_succ, List.getElem_cons_zero, Act.put, List.setIfInBounds_toArray, List.set_cons_zero, List.set_cons_succ]
              refine wpAnyH_take (i := 22) (v := ?v70) rfl (by kernel_rfl) (by kernel_rfl) (by kernel_rfl) (fun _ _ _ h => h) (Or.inl ⟨by rfl, ?hy70⟩) (by assumption) ?rest70
              case hy70 => (intro w hSw; (try dsimp only at hSw); first | (go_simp; done) | (go_simp; with_reducible rfl))
              try simp only [List.getElem_toArray, List.getElem_cons_succ, List.getElem_cons_zero, Act.put, List.setIfInBounds_toArray, List.set_cons_zero, List.set_cons_succ]
              refine wpAnyH_take (i := 23) (v := ?v71) rfl (by kernel_rfl) (by kernel_rfl) (by kernel_rfl) (fun _ _ _ h => h) (Or.inl ⟨by rfl, ?hy71⟩) (by assumption) ?rest71
              case hy71 => (intro w hSw; (try dsimp only at hSw); first | (go_simp; done) | (go_simp; with_reducible rfl))
              try simp only [List.getElem_toArray, List.getElem_cons_succ, List.getElem_cons_zero, Act.put, List.setIfInBounds_toArray, List.set_cons_zero, List.set_cons_succ]
              refine wpAnyH_take (i := 24) (v := ?v72) rfl (by kernel_rfl) (by kernel_rfl) (by kernel_rfl) (fun _ _ _ h => h) (Or.inl ⟨by rfl, ?hy72⟩) (by assumption) ?rest72
              case hy72 => (intro w hSw; (try dsimp only at hSw); first | (go_simp; done) | (go_simp; with_reducible rfl))
              try simp only [List.getElem_toArray, List.getElem_cons_succ, List.getElem_cons_zero, Act.put, List.setIfInBounds_toArray, List.set_cons_zero, List.set_cons_succ]
              refine wpAnyH_done (by kernel_rfl) ?_ _
              have HB4 := Lib.hid (HBE.out.drew.trans (hb.mono HBE.out.drew.size))
              clear hb hHeld2
              go_wp2
              go_roundw
              case rel => exact ⟨j + 1, by omega, by go_num, HR.out, HB4.out⟩
              case measure => simp [intOf]; omega
            | false =>
              have hrf : rnL none k = false := by rw [HRUN.out, HD.out, rnL_cons, hu, if_neg hj0, hpp]; simp [hl2]
              have HR : Hid (r = (false, left - 1)) := Lib.hid (by rw [HRG2.out, hrf]; rfl)
              clear hu hub hprev hpp hpc hrf
              rcases less_not hl2 with lq1 | ⟨lq1, lq2⟩
              · skip
                go_wp2
                refine wp_region_held_drew (S := fun w' => w'.cell? ⟨B, 4, none⟩ = some (.slice (some ⟨g, o, none⟩) q dd) ∧ w'.cell? ⟨g, o + j, none⟩ = some (.string t) ∧ w'.cell? ⟨g, o + (j - 1), none⟩ = some (.string pp)) (by kernel_rfl) (by exact ⟨y0, y1, y2⟩) (fun hHeld => ?_)
                refine wpAnyH_take (i := 0) (v := ?v73) rfl (by kernel_rfl) (by kernel_rfl) (by kernel_rfl) (fun _ _ _ h => h) (Or.inl ⟨by rfl, ?hy73⟩) (by assumption) ?rest73
                case hy73 => (intro w hSw; (try dsimp only at hSw); first | (go_simp; done) | (go_simp; with_reducible rfl))
                try simp only [List.getElem_toArray, List.getElem_cons_succ, List.getElem_cons_zero, Act.put, List.setIfInBounds_toArray, List.set_cons_zero, List.set_cons_succ]
                refine wpAnyH_take (i := 1) (v := ?v74) rfl (by kernel_rfl) (by kernel_rfl) (by kernel_rfl) (fun _ _ _ h => h) (Or.inl ⟨by rfl, ?hy74⟩) (by assumption) ?rest74
                case hy74 => (intro w hSw; (try dsimp only at hSw); first | (go_simp; done) | (go_simp; with_reducible rfl))
                try simp only [List.getElem_toArray, List.getElem_cons_succ, List.getElem_cons_zero, Act.put, List.setIfInBounds_toArray, List.set_cons_zero, List.set_cons_succ]
                refine wpAnyH_take (i := 2) (v := ?v75) rfl (by kernel_rfl) (by kernel_rfl) (by kernel_rfl) (fun _ _ _ h => h) (Or.inl ⟨by rfl, ?hy75⟩) (by assumption) ?rest75
                case hy75 => (intro w hSw; (try dsimp only at hSw); first | (go_simp; done) | (go_simp; with_reducible rfl))
                try simp only [List.getElem_toArray, List.getElem_cons_succ, List.getElem_cons_zero, Act.put, List.setIfInBounds_toArray, List.set_cons_zero, List.set_cons_succ]
                refine wpAnyH_take (i := 3) (v := ?v76) rfl (by kernel_rfl) (by kernel_rfl) (by kernel_rfl) (fun _ _ _ h => h) (Or.inl ⟨by rfl, ?hy76⟩) (by assumption) ?rest76
                case hy76 => (intro w hSw; (try dsimp only at hSw); first | (go_simp; done) | (go_simp; with_reducible rfl))
                try simp only [List.getElem_toArray, List.getElem_cons_succ, List.getElem_cons_zero, Act.put, List.setIfInBounds_toArray, List.set_cons_zero, List.set_cons_succ]
                refine wpAnyH_take (i := 4) (v := ?v77) rfl (by kernel_rfl) (by kernel_rfl) (by kernel_rfl) (fun _ _ _ h => h) (Or.inl ⟨by rfl, ?hy77⟩) (by assumption) ?rest77
                case hy77 => (intro w hSw; (try dsimp only at hSw); first | (go_simp; done) | (go_simp; with_reducible rfl))
                try simp only [List.getElem_toArray, List.getElem_cons_succ, List.getElem_cons_zero, Act.put, List.setIfInBounds_toArray, List.set_cons_zero, List.set_cons_succ]
                refine wpAnyH_ready (rs := [5]) (by kernel_rfl) (by simp) ?_
                refine AllReadyH.cons rfl (fun K hK => ?_) AllReadyH.nil
                go_simp
                go_at_call 74
                refine (HBAD.out _).mono ?_
                rintro e w4 ⟨rfl, hb⟩
                (try go_wp2_with fail)
                refine hK.out _ _ (by exact ⟨((hb.cell (lt_of_cell y0)).trans y0), ((hb.cell (lt_of_cell y1)).trans y1), ((hb.cell (lt_of_cell y2)).trans y2)⟩) (fun hHeld2 => ?_)
                clear hK K hHeld
                try simp only [List.getElem_toArray, List.getElem_cons_succ, List.getElem_cons_zero, Act.put, List.setIfInBounds_toArray, List.set_cons_zero, List.set_cons_succ]
                refine wpAnyH_take (i := 6) (v := ?v78) rfl (by kernel_rfl) (by kernel_rfl) (by kernel_rfl) (fun _ _ _ h => h) (Or.inl ⟨by rfl, ?hy78⟩) (by assumption) ?rest78
                case hy78 => (intro w hSw; (try dsimp only at hSw); first | (go_simp; done) | (go_simp; with_reducible rfl))
                try simp only [List.getElem_toArray, List.getElem_cons_succ, List.getElem_cons_zero, Act.put, List.setIfInBounds_toArray, List.set_cons_zero, List.set_cons_succ]
                refine wpAnyH_take (i := 7) (v := ?v79) rfl (by kernel_rfl) (by kernel_rfl) (by kernel_rfl) (fun _ _ _ h => h) (Or.inl ⟨by rfl, ?hy79⟩) (by assumption) ?rest79
                case hy79 => (intro w hSw; (try dsimp only at hSw); first | (go_simp; done) | (go_simp; with_reducible rfl))
                try simp only [List.getElem_toArray, List.getElem_cons_succ, List.getElem_cons_zero, Act.put, List.setIfInBounds_toArray, List.set_cons_zero, List.set_cons_succ]
                refine wpAnyH_take (i := 8) (v := ?v80) rfl (by kernel_rfl) (by kernel_rfl) (by kernel_rfl) (fun _ _ _ h => h) (Or.inl ⟨by rfl, ?hy80⟩) (by assumption) ?rest80
                case hy80 => (intro w hSw; (try dsimp only at hSw); first | (go_simp; done) | (go_simp; with_reducible rfl))
                try simp only [List.getElem_toArray, List.getElem_cons_succ, List.getElem_cons_zero, Act.put, List.setIfInBounds_toArray, List.set_cons_zero, List.set_cons_succ]
                refine wpAnyH_take (i := 9) (v := .bool true) rfl (by kernel_rfl) (by kernel_rfl) (by kernel_rfl) (fun _ _ _ h => h) (Or.inl ⟨by rfl, ?hy81⟩) (by assumption) ?rest81
                case hy81 => (intro w hSw; (try dsimp only at hSw); go_simp; first | done | exact congrArg Value.bool dgz | (simp; omega) | simp_all)
                try simp only [List.getElem_toArray, List.getElem_cons_succ, List.getElem_cons_zero, Act.put, List.setIfInBounds_toArray, List.set_cons_zero, List.set_cons_succ]
                refine wpAnyH_take (i := 10) (v := ?v82) rfl (by kernel_rfl) (by kernel_rfl) (by kernel_rfl) (fun _ _ _ h => h) (Or.inl ⟨by rfl, ?hy82⟩) (by assumption) ?rest82
                case hy82 => (intro w hSw; (try dsimp only at hSw); first | (go_simp; done) | (go_simp; with_reducible rfl))
                try simp only [List.getElem_toArray, List.getElem_cons_succ, List.getElem_cons_zero, Act.put, List.setIfInBounds_toArray, List.set_cons_zero, List.set_cons_succ]
                refine wpAnyH_take (i := 11) (v := ?v83) rfl (by kernel_rfl) (by kernel_rfl) (by kernel_rfl) (fun _ _ _ h => h) (Or.inl ⟨by rfl, ?hy83⟩) (by assumption) ?rest83
                case hy83 => (intro w hSw; (try dsimp only at hSw); first | (go_simp; done) | (go_simp; with_reducible rfl))
                try simp only [List.getElem_toArray, List.getElem_cons_succ, List.getElem_cons_zero, Act.put, List.setIfInBounds_toArray, List.set_cons_zero, List.set_cons_succ]
                refine wpAnyH_take (i := 12) (v := ?v84) rfl (by kernel_rfl) (by kernel_rfl) (by kernel_rfl) (fun _ _ _ h => h) (Or.inl ⟨by rfl, ?hy84⟩) (by assumption) ?rest84
                case hy84 => (intro w hSw; (try dsimp only at hSw); first | (go_simp; done) | (go_simp; with_reducible rfl))
                try simp only [List.getElem_toArray, List.getElem_cons_succ, List.getElem_cons_zero, Act.put, List.setIfInBounds_toArray, List.set_cons_zero, List.set_cons_succ]
                refine wpAnyH_take (i := 13) (v := ?v85) rfl (by kernel_rfl) (by kernel_rfl) (by kernel_rfl) (fun _ _ _ h => h) (Or.inl ⟨by rfl, ?hy85⟩) (by assumption) ?rest85
                case hy85 => (intro w hSw; (try dsimp only at hSw); first | (go_simp; done) | (go_simp; with_reducible rfl))
                try simp only [List.getElem_toArray, List.getElem_cons_succ, List.getElem_cons_zero, Act.put, List.setIfInBounds_toArray, List.set_cons_zero, List.set_cons_succ]
                refine wpAnyH_take (i := 14) (v := ?v86) rfl (by kernel_rfl) (by kernel_rfl) (by kernel_rfl) (fun _ _ _ h => h) (Or.inl ⟨by rfl, ?hy86⟩) (by assumption) ?rest86
                case hy86 => (intro w hSw; (try dsimp only at hSw); first | (go_simp; done) | (go_simp; with_reducible rfl))
                try simp only [List.getElem_toArray, List.getElem_cons_succ, List.getElem_cons_zero, Act.put, List.setIfInBounds_toArray, List.set_cons_zero, List.set_cons_succ]
                refine wpAnyH_take (i := 15) (v := ?v87) rfl (by kernel_rfl) (by kernel_rfl) (by kernel_rfl) (fun _ _ _ h => h) (Or.inl ⟨by rfl, ?hy87⟩) (by assumption) ?rest87
                case hy87 => (intro w hSw; (try dsimp only at hSw); first | (go_simp; done) | (go_simp; with_reducible rfl))
                try simp only [List.getElem_toArray, List.getElem_cons_succ, List.getElem_cons_zero, Act.put, List.setIfInBounds_toArray, List.set_cons_zero, List.set_cons_succ]
                refine wpAnyH_take (i := 16) (v := ?v88) rfl (by kernel_rfl) (by kernel_rfl) (by kernel_rfl) (fun _ _ _ h => h) (Or.inl ⟨by rfl, ?hy88⟩) (by assumption) ?rest88
                case hy88 => (intro w hSw; (try dsimp only at hSw); first | (go_simp; done) | (go_simp; with_reducible rfl))
                try simp only [List.getElem_toArray, List.getElem_cons_succ, List.getElem_cons_zero, Act.put, List.setIfInBounds_toArray, List.set_cons_zero, List.set_cons_succ]
                refine wpAnyH_take (i := 17) (v := ?v89) rfl (by kernel_rfl) (by kernel_rfl) (by kernel_rfl) (fun _ _ _ h => h) (Or.inl ⟨by rfl, ?hy89⟩) (by assumption) ?rest89
                case hy89 => (intro w hSw; (try dsimp only at hSw); first | (go_simp; done) | (go_simp; with_reducible rfl))
                try simp only [List.getElem_toArray, List.getElem_cons_succ, List.getElem_cons_zero, Act.put, List.setIfInBounds_toArray, List.set_cons_zero, List.set_cons_succ]
                refine wpAnyH_take (i := 18) (v := ?v90) rfl (by kernel_rfl) (by kernel_rfl) (by kernel_rfl) (fun _ _ _ h => h) (Or.inl ⟨by rfl, ?hy90⟩) (by assumption) ?rest90
                case hy90 => (intro w hSw; (try dsimp only at hSw); first | (go_simp; done) | (go_simp; with_reducible rfl))
                try simp only [List.getElem_toArray, List.getElem_cons_succ, List.getElem_cons_zero, Act.put, List.setIfInBounds_toArray, List.set_cons_zero, List.set_cons_succ]
                refine wpAnyH_take (i := 19) (v := ?v91) rfl (by kernel_rfl) (by kernel_rfl) (by kernel_rfl) (fun _ _ _ h => h) (Or.inl ⟨by rfl, ?hy91⟩) (by assumption) ?rest91
                case hy91 => (intro w hSw; (try dsimp only at hSw); first | (go_simp; done) | (go_simp; with_reducible rfl))
                try simp only [List.getElem_toArray, List.getElem_cons_succ, List.getElem_cons_zero, Act.put, List.setIfInBounds_toArray, List.set_cons_zero, List.set_cons_succ]
                refine wpAnyH_take (i := 20) (v := ?v92) rfl (by kernel_rfl) (by kernel_rfl) (by kernel_rfl) (fun _ _ _ h => h) (Or.inl ⟨by rfl, ?hy92⟩) (by assumption) ?rest92
                case hy92 => (intro w hSw; (try dsimp only at hSw); first | (go_simp; done) | (go_simp; with_reducible rfl))
                try simp only [List.getElem_toArray, List.getElem_cons_succ, List.getElem_cons_zero, Act.put, List.setIfInBounds_toArray, List.set_cons_zero, List.set_cons_succ]
                refine wpAnyH_take (i := 21) (v := ?v93) rfl (by kernel_rfl) (by kernel_rfl) (by kernel_rfl) (fun _ _ _ h => h) (Or.inl ⟨by rfl, ?hy93⟩) (by assumption) ?rest93
                case hy93 => (intro w hSw; (try dsimp only at hSw); first | (go_simp; done) | (go_simp; with_reducible rfl))
                try simp only [List.getElem_toArray, List.getElem_cons_succ, List.getElem_cons_zero, Act.put, List.setIfInBounds_toArray, List.set_cons_zero, List.set_cons_succ]
                refine wpAnyH_take (i := 22) (v := ?v94) rfl (by kernel_rfl) (by kernel_rfl) (by kernel_rfl) (fun _ _ _ h => h) (Or.inl ⟨by rfl, ?hy94⟩) (by assumption) ?rest94
                case hy94 => (intro w hSw; (try dsimp only at hSw); first | (go_simp; done) | (go_simp; with_reducible rfl))
                try simp only [List.getElem_toArray, List.getElem_cons_succ, List.getElem_cons_zero, Act.put, List.setIfInBounds_toArray, List.set_cons_zero, List.set_cons_succ]
                refine wpAnyH_take (i := 23) (v := ?v95) rfl (by kernel_rfl) (by kernel_rfl) (by kernel_rfl) (fun _ _ _ h => h) (Or.inl ⟨by rfl, ?hy95⟩) (by assumption) ?rest95
                case hy95 => (intro w hSw; (try dsimp only at hSw); first | (go_simp; done) | (go_simp; with_reducible rfl))
                try simp only [List.getElem_toArray, List.getElem_cons_succ, List.getElem_cons_zero, Act.put, List.setIfInBounds_toArray, List.set_cons_zero, List.set_cons_succ]
                refine wpAnyH_take (i := 24) (v := ?v96) rfl (by kernel_rfl) (by kernel_rfl) (by kernel_rfl) (fun _ _ _ h => h) (Or.inl ⟨by rfl, ?hy96⟩) (by assumption) ?rest96
                case hy96 => (intro w hSw; (try dsimp only at hSw); first | (go_simp; done) | (go_simp; with_reducible rfl))
                try simp only [List.getElem_toArray, List.getElem_cons_succ, List.getElem_cons_zero, Act.put, List.setIfInBounds_toArray, List.set_cons_zero, List.set_cons_succ]
                refine wpAnyH_done (by kernel_rfl) ?_ _
                have HB4 := Lib.hid (HBE.out.drew.trans (hb.mono HBE.out.drew.size))
                clear hb hHeld2
                go_wp2
                go_ret2
                rw [HR.out]
                exact ⟨_, rfl, fun h => (by cases h), HB2.out.trans (HB4.out.mono HB2.out.size)⟩
              · skip
                go_wp2
                refine wp_region_held_drew (S := fun w' => w'.cell? ⟨B, 4, none⟩ = some (.slice (some ⟨g, o, none⟩) q dd) ∧ w'.cell? ⟨g, o + j, none⟩ = some (.string t) ∧ w'.cell? ⟨g, o + (j - 1), none⟩ = some (.string pp)) (by kernel_rfl) (by exact ⟨y0, y1, y2⟩) (fun hHeld => ?_)
                refine wpAnyH_take (i := 0) (v := ?v97) rfl (by kernel_rfl) (by kernel_rfl) (by kernel_rfl) (fun _ _ _ h => h) (Or.inl ⟨by rfl, ?hy97⟩) (by assumption) ?rest97
                case hy97 => (intro w hSw; (try dsimp only at hSw); first | (go_simp; done) | (go_simp; with_reducible rfl))
                try simp only [List.getElem_toArray, List.getElem_cons_succ, List.getElem_cons_zero, Act.put, List.setIfInBounds_toArray, List.set_cons_zero, List.set_cons_succ]
                refine wpAnyH_take (i := 1) (v := ?v98) rfl (by kernel_rfl) (by kernel_rfl) (by kernel_rfl) (fun _ _ _ h => h) (Or.inl ⟨by rfl, ?hy98⟩) (by assumption) ?rest98
                case hy98 => (intro w hSw; (try dsimp only at hSw); first | (go_simp; done) | (go_simp; with_reducible rfl))
                try simp only [List.getElem_toArray, List.getElem_cons_succ, List.getElem_cons_zero, Act.put, List.setIfInBounds_toArray, List.set_cons_zero, List.set_cons_succ]
                refine wpAnyH_take (i := 2) (v := ?v99) rfl (by kernel_rfl) (by kernel_rfl) (by kernel_rfl) (fun _ _ _ h => h) (Or.inl ⟨by rfl, ?hy99⟩) (by assumption) ?rest99
                case hy99 => (intro w hSw; (try dsimp only at hSw); first | (go_simp; done) | (go_simp; with_reducible rfl))
                try simp only [List.getElem_toArray, List.getElem_cons_succ, List.getElem_cons_zero, Act.put, List.setIfInBounds_toArray, List.set_cons_zero, List.set_cons_succ]
                refine wpAnyH_take (i := 3) (v := ?v100) rfl (by kernel_rfl) (by kernel_rfl) (by kernel_rfl) (fun _ _ _ h => h) (Or.inl ⟨by rfl, ?hy100⟩) (by assumption) ?rest100
                case hy100 => (intro w hSw; (try dsimp only at hSw); first | (go_simp; done) | (go_simp; with_reducible rfl))
                try simp only [List.getElem_toArray, List.getElem_cons_succ, List.getElem_cons_zero, Act.put, List.setIfInBounds_toArray, List.set_cons_zero, List.set_cons_succ]
                refine wpAnyH_take (i := 4) (v := ?v101) rfl (by kernel_rfl) (by kernel_rfl) (by kernel_rfl) (fun _ _ _ h => h) (Or.inl ⟨by rfl, ?hy101⟩) (by assumption) ?rest101
                case hy101 => (intro w hSw; (try dsimp only at hSw); first | (go_simp; done) | (go_simp; with_reducible rfl))
                try simp only [List.getElem_toArray, List.getElem_cons_succ, List.getElem_cons_zero, Act.put, List.setIfInBounds_toArray, List.set_cons_zero, List.set_cons_succ]
                refine wpAnyH_ready (rs := [5]) (by kernel_rfl) (by simp) ?_
                refine AllReadyH.cons rfl (fun K hK => ?_) AllReadyH.nil
                go_simp
                go_at_call 74
                refine (HBAD.out _).mono ?_
                rintro e w4 ⟨rfl, hb⟩
                (try go_wp2_with fail)
                refine hK.out _ _ (by exact ⟨((hb.cell (lt_of_cell y0)).trans y0), ((hb.cell (lt_of_cell y1)).trans y1), ((hb.cell (lt_of_cell y2)).trans y2)⟩) (fun hHeld2 => ?_)
                clear hK K hHeld
                try simp only [List.getElem_toArray, List.getElem_cons_succ, List.getElem_cons_zero, Act.put, List.setIfInBounds_toArray, List.set_cons_zero, List.set_cons_succ]
                refine wpAnyH_take (i := 6) (v := ?v102) rfl (by kernel_rfl) (by kernel_rfl) (by kernel_rfl) (fun _ _ _ h => h) (Or.inl ⟨by rfl, ?hy102⟩) (by assumption) ?rest102
                case hy102 => (intro w hSw; (try dsimp only at hSw); first | (go_simp; done) | (go_simp; with_reducible rfl))
                try simp only [List.getElem_toArray, List.getElem_cons_succ, List.getElem_cons_zero, Act.put, List.setIfInBounds_toArray, List.set_cons_zero, List.set_cons_succ]
                refine wpAnyH_take (i := 7) (v := ?v103) rfl (by kernel_rfl) (by kernel_rfl) (by kernel_rfl) (fun _ _ _ h => h) (Or.inl ⟨by rfl, ?hy103⟩) (by assumption) ?rest103
                case hy103 => (intro w hSw; (try dsimp only at hSw); first | (go_simp; done) | (go_simp; with_reducible rfl))
                try simp only [List.getElem_toArray, List.getElem_cons_succ, List.getElem_cons_zero, Act.put, List.setIfInBounds_toArray, List.set_cons_zero, List.set_cons_succ]
                refine wpAnyH_take (i := 8) (v := ?v104) rfl (by kernel_rfl) (by kernel_rfl) (by kernel_rfl) (fun _ _ _ h => h) (Or.inl ⟨by rfl, ?hy104⟩) (by assumption) ?rest104
                case hy104 => (intro w hSw; (try dsimp only at hSw); first | (go_simp; done) | (go_simp; with_reducible rfl))
                try simp only [List.getElem_toArray, List.getElem_cons_succ, List.getElem_cons_zero, Act.put, List.setIfInBounds_toArray, List.set_cons_zero, List.set_cons_succ]
                refine wpAnyH_take (i := 9) (v := .bool true) rfl (by kernel_rfl) (by kernel_rfl) (by kernel_rfl) (fun _ _ _ h => h) (Or.inl ⟨by rfl, ?hy105⟩) (by assumption) ?rest105
                case hy105 => (intro w hSw; (try dsimp only at hSw); go_simp; first | done | exact congrArg Value.bool dgz | (simp; omega) | simp_all)
                try simp only [List.getElem_toArray, List.getElem_cons_succ, List.getElem_cons_zero, Act.put, List.setIfInBounds_toArray, List.set_cons_zero, List.set_cons_succ]
                refine wpAnyH_take (i := 10) (v := ?v106) rfl (by kernel_rfl) (by kernel_rfl) (by kernel_rfl) (fun _ _ _ h => h) (Or.inl ⟨by rfl, ?hy106⟩) (by assumption) ?rest106
                case hy106 => (intro w hSw; (try dsimp only at hSw); first | (go_simp; done) | (go_simp; with_reducible rfl))
                try simp only [List.getElem_toArray, List.getElem_cons_succ, List.getElem_cons_zero, Act.put, List.setIfInBounds_toArray, List.set_cons_zero, List.set_cons_succ]
                refine wpAnyH_take (i := 11) (v := ?v107) rfl (by kernel_rfl) (by kernel_rfl) (by kernel_rfl) (fun _ _ _ h => h) (Or.inl ⟨by rfl, ?hy107⟩) (by assumption) ?rest107
                case hy107 => (intro w hSw; (try dsimp only at hSw); first | (go_simp; done) | (go_simp; with_reducible rfl))
                try simp only [List.getElem_toArray, List.getElem_cons_succ, List.getElem_cons_zero, Act.put, List.setIfInBounds_toArray, List.set_cons_zero, List.set_cons_succ]
                refine wpAnyH_take (i := 12) (v := ?v108) rfl (by kernel_rfl) (by kernel_rfl) (by kernel_rfl) (fun _ _ _ h => h) (Or.inl ⟨by rfl, ?hy108⟩) (by assumption) ?rest108
                case hy108 => (intro w hSw; (try dsimp only at hSw); first | (go_simp; done) | (go_simp; with_reducible rfl))
                try simp only [List.getElem_toArray, List.getElem_cons_succ, List.getElem_cons_zero, Act.put, List.setIfInBounds_toArray, List.set_cons_zero, List.set_cons_succ]
                refine wpAnyH_take (i := 13) (v := ?v109) rfl (by kernel_rfl) (by kernel_rfl) (by kernel_rfl) (fun _ _ _ h => h) (Or.inl ⟨by rfl, ?hy109⟩) (by assumption) ?rest109
                case hy109 => (intro w hSw; (try dsimp only at hSw); first | (go_simp; done) | (go_simp; with_reducible rfl))
                try simp only [List.getElem_toArray, List.getElem_cons_succ, List.getElem_cons_zero, Act.put, List.setIfInBounds_toArray, List.set_cons_zero, List.set_cons_succ]
                refine wpAnyH_take (i := 14) (v := ?v110) rfl (by kernel_rfl) (by kernel_rfl) (by kernel_rfl) (fun _ _ _ h => h) (Or.inl ⟨by rfl, ?hy110⟩) (by assumption) ?rest110
                case hy110 => (intro w hSw; (try dsimp only at hSw); first | (go_simp; done) | (go_simp; with_reducible rfl))
                try simp only [List.getElem_toArray, List.getElem_cons_succ, List.getElem_cons_zero, Act.put, List.setIfInBounds_toArray, List.set_cons_zero, List.set_cons_succ]
                refine wpAnyH_take (i := 15) (v := ?v111) rfl (by kernel_rfl) (by kernel_rfl) (by kernel_rfl) (fun _ _ _ h => h) (Or.inl ⟨by rfl, ?hy111⟩) (by assumption) ?rest111
                case hy111 => (intro w hSw; (try dsimp only at hSw); first | (go_simp; done) | (go_simp; with_reducible rfl))
                try simp only [List.getElem_toArray, List.getElem_cons_succ, List.getElem_cons_zero, Act.put, List.setIfInBounds_toArray, List.set_cons_zero, List.set_cons_succ]
                refine wpAnyH_take (i := 16) (v := ?v112) rfl (by kernel_rfl) (by kernel_rfl) (by kernel_rfl) (fun _ _ _ h => h) (Or.inl ⟨by rfl, ?hy112⟩) (by assumption) ?rest112
                case hy112 => (intro w hSw; (try dsimp only at hSw); first | (go_simp; done) | (go_simp; with_reducible rfl))
                try simp only [List.getElem_toArray, List.getElem_cons_succ, List.getElem_cons_zero, Act.put, List.setIfInBounds_toArray, List.set_cons_zero, List.set_cons_succ]
                refine wpAnyH_take (i := 17) (v := ?v113) rfl (by kernel_rfl) (by kernel_rfl) (by kernel_rfl) (fun _ _ _ h => h) (Or.inl ⟨by rfl, ?hy113⟩) (by assumption) ?rest113
                case hy113 => (intro w hSw; (try dsimp only at hSw); first | (go_simp; done) | (go_simp; with_reducible rfl))
                try simp only [List.getElem_toArray, List.getElem_cons_succ, List.getElem_cons_zero, Act.put, List.setIfInBounds_toArray, List.set_cons_zero, List.set_cons_succ]
                refine wpAnyH_take (i := 18) (v := ?v114) rfl (by kernel_rfl) (by kernel_rfl) (by kernel_rfl) (fun _ _ _ h => h) (Or.inl ⟨by rfl, ?hy114⟩) (by assumption) ?rest114
                case hy114 => (intro w hSw; (try dsimp only at hSw); first | (go_simp; done) | (go_simp; with_reducible rfl))
                try simp only [List.getElem_toArray, List.getElem_cons_succ, List.getElem_cons_zero, Act.put, List.setIfInBounds_toArray, List.set_cons_zero, List.set_cons_succ]
                refine wpAnyH_take (i := 19) (v := ?v115) rfl (by kernel_rfl) (by kernel_rfl) (by kernel_rfl) (fun _ _ _ h => h) (Or.inl ⟨by rfl, ?hy115⟩) (by assumption) ?rest115
                case hy115 => (intro w hSw; (try dsimp only at hSw); first | (go_simp; done) | (go_simp; with_reducible rfl))
                try simp only [List.getElem_toArray, List.getElem_cons_succ, List.getElem_cons_zero, Act.put, List.setIfInBounds_toArray, List.set_cons_zero, List.set_cons_succ]
                refine wpAnyH_take (i := 20) (v := ?v116) rfl (by kernel_rfl) (by kernel_rfl) (by kernel_rfl) (fun _ _ _ h => h) (Or.inl ⟨by rfl, ?hy116⟩) (by assumption) ?rest116
                case hy116 => (intro w hSw; (try dsimp only at hSw); first | (go_simp; done) | (go_simp; with_reducible rfl))
                try simp only [List.getElem_toArray, List.getElem_cons_succ, List.getElem_cons_zero, Act.put, List.setIfInBounds_toArray, List.set_cons_zero, List.set_cons_succ]
                refine wpAnyH_take (i := 21) (v := ?v117) rfl (by kernel_rfl) (by kernel_rfl) (by kernel_rfl) (fun _ _ _ h => h) (Or.inl ⟨by rfl, ?hy117⟩) (by assumption) ?rest117
                case hy117 => (intro w hSw; (try dsimp only at hSw); first | (go_simp; done) | (go_simp; with_reducible rfl))
                try simp only [List.getElem_toArray, List.getElem_cons_succ, List.getElem_cons_zero, Act.put, List.setIfInBounds_toArray, List.set_cons_zero, List.set_cons_succ]
                refine wpAnyH_take (i := 22) (v := ?v118) rfl (by kernel_rfl) (by kernel_rfl) (by kernel_rfl) (fun _ _ _ h => h) (Or.inl ⟨by rfl, ?hy118⟩) (by assumption) ?rest118
                case hy118 => (intro w hSw; (try dsimp only at hSw); first | (go_simp; done) | (go_simp; with_reducible rfl))
                try simp only [List.getElem_toArray, List.getElem_cons_succ, List.getElem_cons_zero, Act.put, List.setIfInBounds_toArray, List.set_cons_zero, List.set_cons_succ]
                refine wpAnyH_take (i := 23) (v := ?v119) rfl (by kernel_rfl) (by kernel_rfl) (by kernel_rfl) (fun _ _ _ h => h) (Or.inl ⟨by rfl, ?hy119⟩) (by assumption) ?rest119
                case hy119 => (intro w hSw; (try dsimp only at hSw); first | (go_simp; done) | (go_simp; with_reducible rfl))
                try simp only [List.getElem_toArray, List.getElem_cons_succ, List.getElem_cons_zero, Act.put, List.setIfInBounds_toArray, List.set_cons_zero, List.set_cons_succ]
                refine wpAnyH_take (i := 24) (v := ?v120) rfl (by kernel_rfl) (by kernel_rfl) (by kernel_rfl) (fun _ _ _ h => h) (Or.inl ⟨by rfl, ?hy120⟩) (by assumption) ?rest120
                case hy120 => (intro w hSw; (try dsimp only at hSw); first | (go_simp; done) | (go_simp; with_reducible rfl))
                try simp only [List.getElem_toArray, List.getElem_cons_succ, List.getElem_cons_zero, Act.put, List.setIfInBounds_toArray, List.set_cons_zero, List.set_cons_succ]
                refine wpAnyH_done (by kernel_rfl) ?_ _
                have HB4 := Lib.hid (HBE.out.drew.trans (hb.mono HBE.out.drew.size))
                clear hb hHeld2
                go_wp2
                go_ret2
                rw [HR.out]
                exact ⟨_, rfl, fun h => (by cases h), HB2.out.trans (HB4.out.mono HB2.out.size)⟩
      · obtain rfl : j = q := by omega
        have hrt : rnL none k = true := by rw [HRUN.out, List.drop_of_length_le (by rw [← HQ.out]; exact Nat.le_refl _)]; exact rnL_nil _
        have HR0 : Hid (r = rgtLs (l.drop 0) (d + 1) (left - 1)) := Lib.hid (by rw [HRG2.out, hrt]; rfl)
        have hge : ¬ (j : Int) < (j : Int) := by omega
        clear hrt hlt
        go_wp2
        clear y0
        go_loopw [2, 9] (fun lf i wq => ∃ (m : Nat) (f : Int), m ≤ p ∧ i = .int .i64 (m : Int) ∧ lf = .int .i64 f ∧ 0 ≤ f ∧ f ≤ 256 ∧ r = rgtLs (l.drop m) (d + 1) f ∧ Below w2.heap.size w2 wq) (fun _ i _ => p - (intOf i).toNat)
        case atStart => exact ⟨0, left - 1, by omega, rfl, rfl, by omega, by omega, HR0.out, HBE.out⟩
        case round =>
          obtain ⟨m, f, hm, rfl, rfl, f0, f1, hrun, hbel⟩ := hrel
          have HRUN2 := Lib.hid hrun
          have HBE2 := Lib.hid hbel
          have y1 := (hbel.cell (p := ⟨B, 3, none⟩) (lt_of_cell HX3.out)).trans HX3.out
          clear hrun hbel
          by_cases hlt2 : m < p
          · have hm1 : m < l.length := by rw [← HP.out]; exact hlt2
            obtain ⟨g, o, rfl, hg, hrep⟩ := HC.out (fun e => by rw [e] at hm1; exact absurd hm1 (Nat.not_lt_zero _))
            obtain ⟨v1, hr1, hf1⟩ := hrep.at m hm1
            have hbw := HB2.out.trans (HBE2.out.mono HB2.out.size)
            have HBW := Lib.hid hbw
            have HCALL := Lib.hid (fun (w' : World) (hb : Below W.heap.size W w') => HIH.out l[m] (List.getElem_mem hm1) (d + 1) f w' v1 (RepJ.below hb _ _ hr1) (by omega) (by omega) f0 f1)
            have HBD := Lib.hid (rgt_iff l[m] (d + 1) f (by omega) (by omega) f0)
            have HST : Hid (r = if (rgt l[m] (d + 1) f).1 = true then rgtLs (l.drop (m + 1)) (d + 1) (rgt l[m] (d + 1) f).2 else (false, (rgt l[m] (d + 1) f).2)) := Lib.hid (by rw [HRUN2.out, List.drop_eq_getElem_cons hm1, rgtLs])
            obtain ⟨a0, a1, a2, a3, a4, rfl, z0, z1, z2, z3, z4⟩ := hf1.below hg hbw
            obtain ⟨z, hz⟩ : ∃ z, z = rgt l[m] (d + 1) f := ⟨_, rfl⟩
            obtain ⟨sz, hsz⟩ : ∃ z : Int, z = (szJ l[m] : Int) ∧ 0 ≤ z := ⟨_, rfl, by omega⟩
            rw [← hz] at HCALL HBD HST
            rw [← hsz.1] at HBD
            have HSZ := Lib.hid hsz.2
            obtain ⟨ok, lf⟩ := z
            have i0 : (0 : Int) ≤ (m : Int) := by omega
            have i1 : (m : Int) < (p : Int) := by omega
            clear hrep hr1 hf1 hbw hz hsz
            cases ok with
            | false =>
              have HR : Hid (r = (false, lf)) := Lib.hid (by rw [HST.out]; rfl)
              go_wp2_with (go_at_call 39; (with_reducible refine (HCALL.out _ HBW.out).mono ?_); rintro e w4 ⟨m', rfl, _, hb⟩; have HB4 := Lib.hid (HBW.out.trans (hb.mono HBW.out.size)); clear hb)
              go_ret2
              rw [HR.out]
              exact ⟨_, rfl, fun h => (by cases h), HB4.out⟩
            | true =>
              have hle : 0 ≤ lf ∧ lf ≤ 256 := by
                have h1 := HBD.out.2 rfl
                have h2 := (HBD.out.1.1 rfl).2.1
                have := HSZ.out
                simp only at h1
                omega
              have HR : Hid (r = rgtLs (l.drop (m + 1)) (d + 1) lf) := Lib.hid (by rw [HST.out]; rfl)
              go_wp2_with (go_at_call 39; (with_reducible refine (HCALL.out _ HBW.out).mono ?_); rintro e w4 ⟨m', rfl, hm', hb⟩; obtain rfl : m' = lf := hm' rfl; have HB4 := Lib.hid (HBE2.out.trans (hb.mono HBE2.out.size)); clear hb hm')
              go_roundw
              case rel => exact ⟨m + 1, m', by omega, by go_num, rfl, hle.1, hle.2, HR.out, HB4.out⟩
              case measure => simp [intOf]; omega
          · obtain rfl : m = p := by omega
            have HR : Hid (r = (true, f)) := Lib.hid (by rw [HRUN2.out, List.drop_eq_nil_of_le (by rw [← HP.out]; exact Nat.le_refl _), rgtLs])
            have hge2 : ¬ (m : Int) < (m : Int) := by omega
            go_wp2
            go_ret2
            rw [HR.out]
            exact ⟨_, rfl, fun _ => rfl, HB2.out.trans (HBE2.out.mono HB2.out.size)⟩
theorem refRight_of (kind n : Int) (s : ByteArray) (l : List J) (k : List ByteArray) (ih : ∀ x ∈ l, RRAsk x) : RRAsk (.mk kind n s l k) := by
  by_cases hk4 : kind = 4 ∨ kind = 5
  · exact refRight_many kind n s l k ih hk4
  · exact refRight_leaf kind n s l k ih hk4
theorem refRight_any (j : J) : RRAsk j := by
  induction j using J.ind with
  | h kind n s l k ih => exact refRight_of kind n s l k ih
set_option maxRecDepth 100000 in
set_option maxHeartbeats 1000000 in
theorem refCheck_any (j : J) (v : Value) (W : World) (hj : RepJ W j v) : Calls Tryz.prog 19 #[v] W fun e w' => e = .returned (.bool (rgt j 1 256).1) ∧ Below W.heap.size W w' := by
  have HC := Lib.hid (fun (w' : World) (hb : Below W.heap.size W w') => refRight_any j 1 256 w' v (RepJ.below hb _ _ hj) (by decide) (by decide) (by decide) (by decide))
  obtain ⟨vk, A, c, rfl, hs, hk, hl, hc⟩ := hj.open
  obtain ⟨K, d, rfl, hkl, hkc⟩ := hk.open
  obtain ⟨r, hr⟩ : ∃ r, r = rgt j 1 256 := ⟨_, rfl⟩
  rw [← hr] at HC ⊢
  obtain ⟨f, r⟩ := r
  clear hj hk hkc hc hr hs hl hkl
  have hB1 := Lib.hid (belowAlloc W (.cells #[.int .i64 j.kind, .int .i64 j.n, .string j.s, .slice A j.l.length c, .slice K j.k.length d] 26))
  go_enter Tryz.func19, Tryz.ntmps19
  go_wp2_with (go_at_call 39; (with_reducible refine (HC.out _ hB1.out).mono ?_); rintro e w' ⟨m, rfl, _, hb⟩; have HB := Lib.hid hb; clear hb)
  go_ret
  exact ⟨rfl, hB1.out.trans (HB.out.mono hB1.out.size)⟩
end Go.Proofs.YtblheibknpphkaaGreatDoor
