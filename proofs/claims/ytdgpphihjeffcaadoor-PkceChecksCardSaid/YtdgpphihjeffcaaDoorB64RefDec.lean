/- The walk of the reference's Decode. -/
import Derived.Test.YtdgpphihjeffcaaDoorB64DecMath
import Derived.Test.YtdgpphihjeffcaaDoorB64Ref
namespace Go.Proofs.YtdgpphihjeffcaaDoor
open Go Go.RowKit

/-- What the reference's search has found behind n signs. -/
def pick (c : Int) (n : Nat) : Int := if wo c < n then wo c else -1
theorem pick_step (c : Int) (n : Nat) : pick c (n + 1) = if wo c = n then (n : Int) else pick c n := by
  unfold pick
  by_cases h : wo c = n
  · rw [if_pos h, if_pos (by omega)]; exact h
  · rw [if_neg h]
    by_cases h2 : wo c < n
    · rw [if_pos h2, if_pos (by omega)]
    · rw [if_neg h2, if_neg (by omega)]
def RefDec (s : ByteArray) (w : World) (e : Ending) (w' : World) : Prop :=
  ((faultL (strL s) = -1 ∧ e = .returned (.tuple #[.string ⟨(toU (decL (strL s))).toArray⟩, .int .i64 0, .int .i64 (-1)])) ∨
    (0 ≤ faultL (strL s) ∧ e = .returned (.tuple #[.string ⟨#[]⟩, .int .i64 20, .int .i64 (faultL (strL s))]))) ∧ Below w.heap.size w w'
theorem RefDec.at {s : ByteArray} {w w' : World} {p : Int} (h : faultL (strL s) = p) (h0 : 0 ≤ p) (hb : Below w.heap.size w w') : RefDec s w (.returned (.tuple #[.string ⟨#[]⟩, .int .i64 20, .int .i64 p])) w' :=
  ⟨.inr ⟨by omega, by rw [h]⟩, hb⟩
theorem refDecode_long (s : ByteArray) (w : World) (hs : s.size ≤ 9223372036854775807) (h : 65536 < s.size) :
    Calls Tryd.prog 25 #[.string s] w fun e w' => e = .returned (.tuple #[.string ⟨#[]⟩, .int .i64 2, .int .i64 (-1)]) ∧ w = w' := by
  go_enter Tryd.func25, Tryd.ntmps25
  go_wp2
  go_ret3
  exact ⟨rfl, rfl⟩
set_option maxRecDepth 100000 in
set_option maxHeartbeats 4000000 in
theorem refDecode_any (s : ByteArray) (w : World) (h : s.size ≤ 65536) :
    Calls Tryd.prog 25 #[.string s] w (RefDec s w) := by
  have hI : (s.size : Int) ≤ 65536 := by omega
  have HL := badL_le (strL s)
  rw [length_strL] at HL
  have HG := Lib.hid (badL_good (strL s))
  have HBd := Lib.hid (badL_bad (strL s))
  obtain ⟨q, hq⟩ : ∃ q, q = badL (strL s) := ⟨_, rfl⟩
  have HF : Hid (faultL (strL s) = if q < s.size then (q : Int) else if s.size % 4 = 0 then -1 else if s.size % 4 = 1 then (s.size : Int) else if looseL (strL s) = 0 then -1 else (s.size : Int) - 1) := Lib.hid (by
    unfold faultL; rw [← hq, length_strL])
  rw [← hq] at HL HG HBd
  clear hq
  obtain ⟨i0, hi0, hz0, hz1, hz2⟩ := info_parts info5b
  have hown0 : (w.alloc (.cells #[] 5)).ownsRow w.heap.size 5 1 (.slice (some ⟨w.heap.size, 0, none⟩) 0 0) 0 [] := World.ownsRow_lit w #[] 0 (Nat.le_refl _) (by unfold maxLen; omega) rfl
  have HO0 := Lib.hid hown0
  clear hown0
  go_enter Tryd.func25, Tryd.ntmps25
  go_wp2
  go_loopw [5, 6] (fun v i wr => ∃ k : Nat, k ≤ q ∧ i = .int .i64 k ∧ wr.ownsRow w.heap.size 5 1 v (6 * k) (ints .u8 (bitsD (strL s) (6 * k))) ∧ Below w.heap.size w wr) (fun _ i _ => q - (intOf i).toNat)
  case atStart => exact ⟨0, by omega, rfl, HO0.out, belowAlloc _ _⟩
  case round =>
    clear HO0
    obtain ⟨i, hi, rfl, hown, hbel⟩ := hrel
    have HOW := Lib.hid hown
    have HBE := Lib.hid hbel
    clear hown hbel
    by_cases hlt : i < s.size
    · have hltI : (i : Int) < (s.size : Int) := by omega
      have hb : (s[i].toNat : Int) ≤ 255 := by have := s[i].toNat_lt; omega
      have hwb := wo_bd (s[i].toNat : Int)
      have HC : Hid ((s[i].toNat : Int) = (strL s).getD i 0) := Lib.hid (strL_get s i hlt).symm
      go_wp2
      obtain ⟨wo1, hwo1⟩ : ∃ wo1 : World, wo1 = wr := ⟨_, rfl⟩
      rw [← hwo1] at HOW HBE ⊢
      clear hwo1
      have HOB := Lib.hid (And.intro HOW.out HBE.out)
      go_loopw [7, 8] (fun v k wr => ∃ n : Nat, n ≤ 64 ∧ k = .int .i64 n ∧ v = .int .i64 (pick (s[i].toNat : Int) n) ∧ ∃ m, wr = wo1.drewN m) (fun _ k _ => 64 - (intOf k).toNat)
      case atStart => exact ⟨0, by omega, rfl, by unfold pick; rw [if_neg (by omega)], 0, rfl⟩
      case round =>
        obtain ⟨n, hn, rfl, rfl, m, rfl⟩ := hrel
        by_cases hn6 : n < 64
        · have hS := pick_step (s[i].toNat : Int) n
          have HS := Lib.hid hS
          clear hS
          have hsb := sg_bd n (by omega)
          have HSN := Lib.hid (fun (W : World) => (refSign_any n W (by omega) (by omega)).mono fun _ _ (hh : _ ∧ _) => (⟨hh.1, hh.2.symm⟩ : _ ∧ _))
          have hbb : (sg n == (s[i].toNat : Int)) = decide (wo (s[i].toNat : Int) = n) := by
            rw [Bool.eq_iff_iff, beq_iff_eq, decide_eq_true_eq]; exact sg_eq_iff _ _ (by omega) (by omega)
          obtain ⟨y, hy⟩ : ∃ y, y = sg n := ⟨_, rfl⟩
          rw [← hy] at HSN hbb
          obtain ⟨p0, hp0⟩ : ∃ p0, p0 = pick (s[i].toNat : Int) n := ⟨_, rfl⟩
          rw [← hp0] at HS ⊢
          obtain ⟨wi, hwi⟩ : ∃ wi, wi = wo1.drewN m := ⟨_, rfl⟩
          rw [← hwi]
          have HWI := Lib.hid hwi
          clear hwi hy hsb hp0
          by_cases hq : wo (s[i].toNat : Int) = n
          · rw [decide_eq_true hq] at hbb
            have HP : Hid (pick (s[i].toNat : Int) (n + 1) = n) := Lib.hid (by rw [HS.out, if_pos hq])
            clear hq HS
            go_wp2
            go_quiet ((go_at_call 38; exact Calls.quiet_of_same (HSN.out _)))
            go_wp2
            go_roundw
            case rel => exact ⟨n + 1, by omega, by go_num, by rw [HP.out], m + nq, by rw [HWI.out, World.drewN_drewN]⟩
            case measure => simp [intOf]; omega
          · rw [decide_eq_false hq] at hbb
            have HP : Hid (pick (s[i].toNat : Int) (n + 1) = p0) := Lib.hid (by rw [HS.out, if_neg hq])
            clear hq HS
            go_wp2
            go_quiet ((go_at_call 38; exact Calls.quiet_of_same (HSN.out _)))
            go_wp2
            go_roundw
            case rel => exact ⟨n + 1, by omega, by go_num, by rw [HP.out], m + nq, by rw [HWI.out, World.drewN_drewN]⟩
            case measure => simp [intOf]; omega
        · obtain rfl : n = 64 := by omega
          have HO2 : Hid ((wo1.drewN m).ownsRow w.heap.size 5 1 u5 (6 * i) (ints .u8 (bitsD (strL s) (6 * i))) ∧ Below w.heap.size w (wo1.drewN m)) := Lib.hid ⟨HOB.out.1, below_drewN HOB.out.2 m⟩
          obtain ⟨wi, hwi⟩ : ∃ wi, wi = wo1.drewN m := ⟨_, rfl⟩
          rw [← hwi] at HO2 ⊢
          clear hwi
          by_cases hbad : wo (s[i].toNat : Int) = 64
          · have hiq : i = q := by
              rcases Nat.lt_or_ge i q with h | h
              · have := HG.out i h
                rw [← HC.out] at this
                exact absurd hbad this
              · omega
            have HP : Hid (faultL (strL s) = (i : Int)) := Lib.hid (by rw [HF.out, if_pos (by omega)]; omega)
            have hpk : pick (s[i].toNat : Int) 64 = -1 := by unfold pick; rw [if_neg (by omega)]
            rw [hpk]
            clear hpk hbad hiq
            go_wp2
            go_ret3
            exact RefDec.at HP.out (by omega) HO2.out.2
          · have hiq : i < q := by
              rcases Nat.lt_or_ge i q with h | h
              · exact h
              · have := HBd.out (by rw [length_strL]; omega)
                rw [show q = i by omega, ← HC.out] at this
                exact absurd this hbad
            have hpk : pick (s[i].toNat : Int) 64 = wo (s[i].toNat : Int) := by unfold pick; rw [if_pos (by omega)]
            rw [hpk]
            obtain ⟨x, hx⟩ : ∃ x, x = wo (s[i].toNat : Int) := ⟨_, rfl⟩
            have HX : Hid (x = wo ((strL s).getD i 0)) := Lib.hid (by rw [← HC.out]; exact hx)
            rw [← hx] at hwb hbad ⊢
            obtain ⟨x0, x1⟩ := hwb
            replace x1 : x < 64 := by omega
            clear hpk hbad hx
            have hxn : ¬ x < 0 := by omega
            go_wp2
            obtain ⟨wo2, hwo2⟩ : ∃ wo2, wo2 = wi := ⟨_, rfl⟩
            rw [← hwo2] at HO2 ⊢
            clear hwo2
            go_loopw [5, 9] (fun v k wr => ∃ t : Nat, t ≤ 6 ∧ k = .int .i64 (5 - (t : Int)) ∧ wr.ownsRow w.heap.size 5 1 v (6 * i + t) (ints .u8 (bitsD (strL s) (6 * i + t))) ∧ Below w.heap.size w wr) (fun _ k _ => (intOf k + 1).toNat)
            case atStart => exact ⟨0, by omega, rfl, HO2.out.1, HO2.out.2⟩
            case round =>
              clear HO2
              obtain ⟨t, ht, rfl, hown, hbel⟩ := hrel
              have HOW2 := Lib.hid hown
              have HBE2 := Lib.hid hbel
              clear hown hbel
              by_cases ht6 : t < 6
              · have hk0 : (0 : Int) ≤ 5 - (t : Int) := by omega
                have hd0 : 0 ≤ x / 2 ^ (5 - t) := Int.ediv_nonneg x0 (by exact Int.pow_nonneg (by decide))
                have hd1 : x / 2 ^ (5 - t) ≤ 63 := Int.le_trans (Int.ediv_le_self _ x0) (by omega)
                have HNX : Hid (ints .u8 (bitsD (strL s) (6 * i + t)) ++ [.int .u8 (x / 2 ^ (5 - t) % 2)] = ints .u8 (bitsD (strL s) (6 * i + (t + 1)))) := Lib.hid (by
                  rw [show 6 * i + (t + 1) = (6 * i + t) + 1 by omega, bitsD, ints_append, bitD, show (6 * i + t) / 6 = i by omega, show (6 * i + t) % 6 = t by omega, ← HX.out]; rfl)
                have hsz : w.heap.size ≤ wr.heap.size := HBE2.out.size
                go_wp2_with (first
                  | (at_builtin; refine wpList_append_own _ rfl (.tmp 44) (.tmp 51) 37 rfl w.heap.size 5 i0 (.int .u8 0) 1 1 Tryd.underlying37 hi0 hz0 hz1 hz2 rfl (by decide) _ (6 * i + t) _ rfl (HOW2.out.alloc _) ⟨wr.heap.size, 0, none⟩ 1 1 [.int .u8 (x / 2 ^ (5 - t) % 2)] rfl rfl ?c1 ?c2 ?c3 ?c4 ?c5 ?_))
                case c1 => exact cell_one_new _ _ _
                case c2 => intro u hu; rw [List.mem_singleton.1 hu]; rfl
                case c3 => unfold maxLen; omega
                case c4 => omega
                case c5 => simp; omega
                intro v' w' hown' hgr _
                have HW : Hid (w'.ownsRow w.heap.size 5 1 v' (6 * i + (t + 1)) (ints .u8 (bitsD (strL s) (6 * i + (t + 1)))) ∧ Below w.heap.size w w') := Lib.hid ⟨by rw [← HNX.out]; exact hown', (HBE2.out.alloc hsz _).grown hgr (by simp; omega) (own_ge HOW2.out)⟩
                clear hown' hgr
                go_wp2_with fail
                go_roundw
                case rel => exact ⟨t + 1, by omega, by rw [show ((t + 1 : Nat) : Int) = (t : Int) + 1 by omega, show (5 : Int) - ((t : Int) + 1) = 5 - (t : Int) - 1 by omega], HW.out.1, HW.out.2⟩
                case measure => simp [intOf]; omega
              · obtain rfl : t = 6 := by omega
                go_wp2
                go_roundw
                case rel => exact ⟨i + 1, by omega, by go_num, by rw [show 6 * (i + 1) = 6 * i + 6 by omega]; exact HOW2.out, HBE2.out⟩
                case measure => simp [intOf]; omega
    · have hnq : ¬ q < s.size := by omega
      have hltI : ¬ (i : Int) < (s.size : Int) := by omega
      obtain rfl : i = s.size := by omega
      obtain ⟨A, c, rfl, hc, hlie⟩ := own_lies HOW.out (length_bitsD _ _)
      have hab : ∀ k, some k = (Value.slice A (6 * s.size) c).ownBlock → k < wr.heap.size := fun k hk => (HOW.out.lt k hk.symm).2
      have HLI := Lib.hid hlie
      have HGD : Hid (Good (strL s)) := Lib.hid fun k hk => HG.out k (by rw [length_strL] at hk; omega)
      clear HOW hc hlie hab HG HBd
      by_cases m1 : s.size % 4 = 1
      · have HP : Hid (faultL (strL s) = (s.size : Int)) := Lib.hid (by rw [HF.out, if_neg hnq, if_neg (by omega), if_pos m1])
        have b1 : (((s.size : Int) % 4) == 1) = true := by simp; omega
        clear m1
        go_wp2
        go_ret3
        exact RefDec.at HP.out (by omega) HBE.out
      · have HF2 : Hid (faultL (strL s) = if s.size % 4 = 0 then -1 else if looseL (strL s) = 0 then -1 else (s.size : Int) - 1) := Lib.hid (by
          rw [HF.out, if_neg hnq]
          split
          · rfl
          · first | rfl | rw [if_neg m1])
        have b1 : (((s.size : Int) % 4) == 1) = false := by simp; omega
        have HM1 := Lib.hid m1
        have hown0 : (wr.alloc (.cells #[] 5)).ownsRow wr.heap.size 5 1 (.slice (some ⟨wr.heap.size, 0, none⟩) 0 0) 0 [] := World.ownsRow_lit wr #[] 0 (Nat.le_refl _) (by unfold maxLen; omega) rfl
        have HO0 := Lib.hid hown0
        clear hown0 m1 HF
        obtain ⟨u, hu⟩ : ∃ u, u = 6 * s.size := ⟨_, rfl⟩
        have HU := Lib.hid hu
        rw [← hu] at HLI ⊢
        have hul : u ≤ 400000 := by omega
        clear hu
        obtain ⟨w0, hw0⟩ : ∃ w0, w0 = wr := ⟨_, rfl⟩
        rw [← hw0] at HBE HLI HO0 ⊢
        clear hw0
        go_wp2
        go_loopw [10, 12] (fun v i wr => ∃ j : Nat, j ≤ u / 8 ∧ i = .int .i64 ((8 * j : Nat) : Int) ∧ wr.ownsRow w0.heap.size 5 1 v j (ints .u8 (outD (strL s) j)) ∧ Below w0.heap.size w0 wr) (fun _ i _ => u - (intOf i).toNat)
        case atStart => exact ⟨0, by omega, rfl, HO0.out, belowAlloc _ _⟩
        case round =>
          clear HO0
          obtain ⟨j, hj, rfl, hown, hbel⟩ := hrel
          have HOW := Lib.hid hown
          have HBE2 := Lib.hid hbel
          clear hown hbel
          obtain ⟨a, ha⟩ : ∃ a, a = 8 * j := ⟨_, rfl⟩
          have HA := Lib.hid ha
          rw [← ha]
          have hau : a ≤ u := by omega
          by_cases hlt : j < u / 8
          · have hltI : (a : Int) < (u : Int) / 8 * 8 := by omega
            have hau8 : a + 8 ≤ u := by omega
            obtain ⟨b, o, rfl, _, hcl⟩ := HLI.out.at (by rw [length_bitsD]; omega)
            have HCL : Hid (∀ k, a + k < u → w0.cell? ⟨b, o + (a + k), none⟩ = some (.int .u8 (bitD (strL s) (a + k)))) := Lib.hid fun k hk => by
              rw [hcl (a + k) (by rw [length_bitsD]; omega), List.getD_eq_getElem?_getD, bitsD_get _ _ _ hk]; rfl
            have hbl : b < w0.heap.size := lt_of_cell (HCL.out 0 (by omega))
            clear hcl ha
            go_wp2
            obtain ⟨w3, hw3⟩ : ∃ w3, w3 = wr := ⟨_, rfl⟩
            rw [← hw3] at HOW HBE2 ⊢
            clear hw3
            go_loop [13, 14] (fun n k => ∃ t : Nat, t ≤ 8 ∧ k = .int .i64 t ∧ n = .int .u8 (accD (strL s) a t)) (fun _ k => 8 - (intOf k).toNat)
            case atStart => exact ⟨0, by omega, rfl, rfl⟩
            case round =>
              obtain ⟨t, ht, rfl, rfl⟩ := hrel
              have hab := accD_bd (strL s) a t
              have hab2 : 0 ≤ accD (strL s) a t ∧ accD (strL s) a t ≤ 255 := by
                have : t = 0 ∨ t = 1 ∨ t = 2 ∨ t = 3 ∨ t = 4 ∨ t = 5 ∨ t = 6 ∨ t = 7 ∨ t = 8 := by omega
                rcases this with rfl | rfl | rfl | rfl | rfl | rfl | rfl | rfl | rfl <;> constructor <;> omega
              by_cases ht8 : t < 8
              · have hab3 : accD (strL s) a t ≤ 127 := by
                  have : t = 0 ∨ t = 1 ∨ t = 2 ∨ t = 3 ∨ t = 4 ∨ t = 5 ∨ t = 6 ∨ t = 7 := by omega
                  rcases this with rfl | rfl | rfl | rfl | rfl | rfl | rfl | rfl <;> omega
                have hbd := bitD_bd (strL s) (a + t)
                have hcell := (HBE2.out.cell (p := ⟨b, o + (a + t), none⟩) hbl).trans (HCL.out t (by omega))
                have HS : Hid (accD (strL s) a (t + 1) = 2 * accD (strL s) a t + bitD (strL s) (a + t)) := Lib.hid rfl
                obtain ⟨x, hx⟩ : ∃ x, x = accD (strL s) a t := ⟨_, rfl⟩
                obtain ⟨y, hy⟩ : ∃ y, y = bitD (strL s) (a + t) := ⟨_, rfl⟩
                rw [← hx] at HS hab2 hab3 ⊢
                rw [← hy] at HS hbd hcell
                obtain ⟨x0, _⟩ := hab2
                obtain ⟨y0, y1⟩ := hbd
                clear hab hx hy
                go_wp2
                exact ⟨⟨t + 1, by omega, by go_num, by rw [HS.out]⟩, by simp [intOf]; omega⟩
              · obtain rfl : t = 8 := by omega
                have HNX : Hid (ints .u8 (outD (strL s) j) ++ [.int .u8 (accD (strL s) a 8)] = ints .u8 (outD (strL s) (j + 1))) := Lib.hid (by rw [outD, ints_append, HA.out]; rfl)
                obtain ⟨x, hx⟩ : ∃ x, x = accD (strL s) a 8 := ⟨_, rfl⟩
                rw [← hx] at HNX hab2 ⊢
                obtain ⟨x0, x1⟩ := hab2
                have hsz : w0.heap.size ≤ w3.heap.size := HBE2.out.size
                clear hab hx
                go_wp2_with (first
                  | (at_builtin; refine wpList_append_own _ rfl (.tmp 82) (.tmp 84) 37 rfl w0.heap.size 5 i0 (.int .u8 0) 1 1 Tryd.underlying37 hi0 hz0 hz1 hz2 rfl (by decide) _ j _ rfl (HOW.out.alloc _) ⟨w3.heap.size, 0, none⟩ 1 1 [.int .u8 x] rfl rfl ?d1 ?d2 ?d3 ?d4 ?d5 ?_))
                case d2 => rfl
                case d3 => unfold maxLen; omega
                case d4 => omega
                case d5 => omega
                intro v' w' hown' hgr _
                have HW : Hid (w'.ownsRow w0.heap.size 5 1 v' (j + 1) (ints .u8 (outD (strL s) (j + 1))) ∧ Below w0.heap.size w0 w') := Lib.hid ⟨by rw [← HNX.out]; exact hown', (HBE2.out.alloc hsz _).grown hgr (by simp; omega) (own_ge HOW.out)⟩
                clear hown' hgr
                go_wp2_with fail
                go_roundw
                case rel => exact ⟨j + 1, by omega, by rw [show 8 * (j + 1) = a + 8 by have := HA.out; omega]; go_num, HW.out.1, HW.out.2⟩
                case measure => simp [intOf]; omega
          · have hltI : ¬ (a : Int) < (u : Int) / 8 * 8 := by omega
            have hju : j = u / 8 := by omega
            have HO := HOW.out
            rw [hju, show outD (strL s) (u / 8) = decL (strL s) by rw [HU.out, ← length_strL s, Nat.mul_comm]; exact outD_dec _ HGD.out] at HO
            obtain ⟨A2, c2, rfl, hc2, hl2⟩ := own_lies HO (by rw [length_decL, length_strL, HU.out, Nat.mul_comm])
            have HL2 := Lib.hid hl2
            clear ha hju HO hc2 hl2 HOW HA
            obtain ⟨g, hg⟩ : ∃ g, g = u / 8 * 8 := ⟨_, rfl⟩
            have HGG := Lib.hid hg
            have hgI : (u : Int) / 8 * 8 = (g : Int) := by omega
            have hgu : g ≤ u := by omega
            have hlt2 : ¬ (a : Int) < (g : Int) := by omega
            obtain ⟨n8, hn8⟩ : ∃ n8, n8 = u / 8 := ⟨_, rfl⟩
            have HN8 := Lib.hid hn8
            rw [← hn8]
            obtain ⟨w3, hw3⟩ : ∃ w3, w3 = wr := ⟨_, rfl⟩
            rw [← hw3] at HL2 HBE2 ⊢
            have HB3 : Hid (Below w.heap.size w w3) := Lib.hid (HBE.out.trans (HBE2.out.mono HBE.out.size))
            clear hw3 hg hn8 hltI hau
            go_wp2
            go_loop [15] (fun i => ∃ p : Nat, g ≤ p ∧ p ≤ u ∧ i = .int .i64 p ∧ ∀ r, g ≤ r → r < p → bitD (strL s) r = 0) (fun i => u - (intOf i).toNat)
            case atStart => exact ⟨g, Nat.le_refl _, hgu, rfl, fun r h1 h2 => by omega⟩
            case round =>
              obtain ⟨p, hp0, hp, rfl, hz⟩ := hrel
              have HZ := Lib.hid hz
              clear hz
              by_cases hlt : p < u
              · obtain ⟨b, o, rfl, _, hcl⟩ := HLI.out.at (by rw [length_bitsD]; omega)
                have hc0 : w0.cell? ⟨b, o + p, none⟩ = some (.int .u8 (bitD (strL s) p)) := by
                  rw [hcl p (by rw [length_bitsD]; exact hlt), List.getD_eq_getElem?_getD, bitsD_get _ _ _ hlt]; rfl
                have hcell := (HBE2.out.cell (p := ⟨b, o + p, none⟩) (lt_of_cell hc0)).trans hc0
                have hbd := bitD_bd (strL s) p
                clear hcl hc0
                by_cases hbz : bitD (strL s) p = 0
                · have HZ2 : Hid (∀ r, g ≤ r → r < p + 1 → bitD (strL s) r = 0) := Lib.hid fun r h1 h2 => by
                    rcases Nat.lt_or_ge r p with h | h
                    · exact HZ.out r h1 h
                    · obtain rfl : r = p := by omega
                      exact hbz
                  rw [hbz] at hcell
                  clear hbz hbd
                  go_wp2
                  exact ⟨⟨p + 1, by omega, by omega, by go_num, HZ2.out⟩, by simp [intOf]; omega⟩
                · have hln := last_not (strL s) p (by rw [length_strL]; have := HU.out; have := HGG.out; omega) (by rw [length_strL, ← HU.out]; exact hlt) hbz
                  rw [length_strL] at hln
                  have HP : Hid (faultL (strL s) = (s.size : Int) - 1) := Lib.hid (by rw [HF2.out, if_neg hln.1, if_neg (hln.2 HM1.out)])
                  have hpos : 1 ≤ s.size := by have := HU.out; omega
                  have hb1 : (bitD (strL s) p != 0) = true := by simpa using hbz
                  obtain ⟨y, hy⟩ : ∃ y, y = bitD (strL s) p := ⟨_, rfl⟩
                  rw [← hy] at hcell hb1 hbd
                  clear hbz hln hy
                  go_wp2
                  go_ret3
                  exact RefDec.at HP.out (by omega) HB3.out
              · obtain rfl : p = u := by omega
                have HP : Hid (faultL (strL s) = -1) := Lib.hid (by
                  rw [HF2.out]
                  split
                  · rfl
                  · rw [if_pos]
                    refine last_bits (strL s) ?_ fun r h1 h2 => HZ.out r (by rw [length_strL] at h1; have := HU.out; have := HGG.out; omega) (by rw [length_strL, ← HU.out] at h2; exact h2)
                    rw [length_strL]; have := HM1.out; omega)
                have hcv := conv_str A2 (decL (strL s)) n8 c2 w3 (by rw [HN8.out, length_decL, length_strL, HU.out, Nat.mul_comm]) HL2.out
                go_wp2
                go_ret3
                exact ⟨.inl ⟨HP.out, rfl⟩, HB3.out⟩
end Go.Proofs.YtdgpphihjeffcaaDoor
