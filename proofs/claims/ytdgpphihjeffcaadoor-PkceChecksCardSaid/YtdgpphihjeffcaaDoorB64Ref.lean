/- The walks of the reference's sign and Encode. -/
import Derived.Test.YtdgpphihjeffcaaDoorB64RefMath
import Derived.Test.YtdgpphihjeffcaaDoorB64Txt
namespace Go.Proofs.YtdgpphihjeffcaaDoor
open Go Go.RowKit

theorem refSign_any (n : Int) (w : World) (h0 : 0 ≤ n) (h1 : n < 64) :
    Calls Tryd.prog 38 #[.int .i64 n] w fun e w' => e = .returned (.int .u8 (sg n)) ∧ w = w' := by
  have hi := index_sign .i64 n h0 h1
  go_enter Tryd.func38, Tryd.ntmps38
  go_wp2
  go_ret
  exact ⟨rfl, rfl⟩
set_option maxRecDepth 100000 in
set_option maxHeartbeats 1000000 in
theorem refEncode_any (s : ByteArray) (w : World) (hs : s.size ≤ 20000) :
    Calls Tryd.prog 21 #[.string s] w fun e w' => e = .returned (.string (txt s)) ∧ Below w.heap.size w w' := by
  obtain ⟨i0, hi0, hz0, hz1, hz2⟩ := info_parts info5b
  have hown0 : (w.alloc (.cells #[] 5)).ownsRow w.heap.size 5 1 (.slice (some ⟨w.heap.size, 0, none⟩) 0 0) 0 [] := World.ownsRow_lit w #[] 0 (Nat.le_refl _) (by unfold maxLen; omega) rfl
  have HO0 := Lib.hid hown0
  clear hown0
  go_enter Tryd.func21, Tryd.ntmps21
  go_wp2
  go_loopw [3, 4] (fun v i wr => ∃ j : Nat, 6 * j ≤ 8 * s.size + 5 ∧ i = .int .i64 ((6 * j : Nat) : Int) ∧ wr.ownsRow w.heap.size 5 1 v j (ints .u8 (refL (strL s) j)) ∧ Below w.heap.size w wr) (fun _ i _ => 8 * s.size + 6 - (intOf i).toNat)
  case atStart => exact ⟨0, by omega, rfl, HO0.out, belowAlloc _ _⟩
  case round =>
    clear HO0
    obtain ⟨j, hj, rfl, hown, hbel⟩ := hrel
    have HOW := Lib.hid hown
    have HBE := Lib.hid hbel
    clear hown hbel
    obtain ⟨a, ha⟩ : ∃ a, a = 6 * j := ⟨_, rfl⟩
    have HA := Lib.hid ha
    rw [← ha] at hj ⊢
    clear ha
    have hjb : j ≤ 40000 := by have := HA.out; omega
    by_cases hlt : a < 8 * s.size
    · have hltI : (a : Int) < 8 * (s.size : Int) := by omega
      go_wp2
      obtain ⟨wo, hwo⟩ : ∃ wo : World, wo = wr := ⟨_, rfl⟩
      rw [← hwo] at HOW HBE ⊢
      clear hwo
      go_loop [5, 6] (fun n k => ∃ i : Nat, i ≤ 6 ∧ k = .int .i64 ((a + i : Nat) : Int) ∧ n = .int .i64 (sixk (strL s) a i)) (fun _ k => a + 6 - (intOf k).toNat)
      case atStart => exact ⟨0, by omega, rfl, rfl⟩
      case round =>
        obtain ⟨i, hi, rfl, rfl⟩ := hrel
        have hsx := sixk_bd (strL s) a i
        have hsx6 : 0 ≤ sixk (strL s) a i ∧ sixk (strL s) a i < 64 := by
          have : i = 0 ∨ i = 1 ∨ i = 2 ∨ i = 3 ∨ i = 4 ∨ i = 5 ∨ i = 6 := by omega
          rcases this with rfl | rfl | rfl | rfl | rfl | rfl | rfl <;> constructor <;> omega
        obtain ⟨x0, x1⟩ := hsx6
        clear hsx
        by_cases hi6 : i < 6
        · have HS : Hid (sixk (strL s) a (i + 1) = 2 * sixk (strL s) a i + bitAt (strL s) (a + i)) := Lib.hid rfl
          obtain ⟨k, hk⟩ : ∃ k, k = a + i := ⟨_, rfl⟩
          rw [← hk] at HS ⊢
          have hk1 : k < a + 6 := by omega
          have HK := Lib.hid hk
          obtain ⟨x, hxx⟩ : ∃ x, x = sixk (strL s) a i := ⟨_, rfl⟩
          rw [← hxx] at x0 x1 HS ⊢
          clear hk hxx
          by_cases hks : k < 8 * s.size
          · have hk8 : k / 8 < s.size := by omega
            have hby : (s[k / 8].toNat : Int) ≤ 255 := by have := s[k / 8].toNat_lt; omega
            have hd0 : 0 ≤ (s[k / 8].toNat : Int) / 2 ^ (7 - k % 8) := Int.ediv_nonneg (by omega) (by exact Int.pow_nonneg (by decide))
            have hd1 : (s[k / 8].toNat : Int) / 2 ^ (7 - k % 8) ≤ 255 := Int.le_trans (Int.ediv_le_self _ (by omega)) hby
            have HBT : Hid (bitAt (strL s) k = (s[k / 8].toNat : Int) / 2 ^ (7 - k % 8) % 2) := Lib.hid (by rw [bitAt, strL_get s _ hk8])
            go_wp2
            go_round
            case rel =>
              refine ⟨i + 1, by omega, by rw [show a + (i + 1) = k + 1 by rw [HK.out]; omega]; go_num, by rw [HS.out, HBT.out]⟩
            case measure => simp [intOf]; omega
          · have hb0 : bitAt (strL s) k = 0 := by
              unfold bitAt
              rw [List.getD_eq_getElem?_getD, List.getElem?_eq_none (by rw [length_strL]; omega)]
              show 0 / 2 ^ (7 - k % 8) % 2 = (0 : Int)
              rw [Int.zero_ediv]; rfl
            rw [hb0] at HS
            clear hb0
            go_wp2
            go_round
            case rel => exact ⟨i + 1, by omega, by rw [show a + (i + 1) = k + 1 by rw [HK.out]; omega]; go_num, by rw [HS.out, Int.add_zero]⟩
            case measure => simp [intOf]; omega
        · have hi66 : i = 6 := by omega
          subst hi66
          have HSN := Lib.hid (refSign_any (sixk (strL s) a 6) wo x0 x1)
          have HNX : Hid (ints .u8 (refL (strL s) j) ++ [.int .u8 (sg (sixk (strL s) a 6))] = ints .u8 (refL (strL s) (j + 1))) := Lib.hid (by rw [refL, ints_append, HA.out]; rfl)
          obtain ⟨x, hxx⟩ : ∃ x, x = sixk (strL s) a 6 := ⟨_, rfl⟩
          rw [← hxx] at x0 x1 HSN HNX ⊢
          obtain ⟨y, hy⟩ : ∃ y, y = sg x := ⟨_, rfl⟩
          rw [← hy] at HSN HNX
          clear hxx hy
          have hsz : w.heap.size ≤ wo.heap.size := HBE.out.size
          go_wp2_with (first
            | (go_at_call 38; refine HSN.out.mono ?_; rintro e w' ⟨rfl, rfl⟩)
            | (at_builtin; refine wpList_append_own _ rfl (.tmp 43) (.tmp 46) 37 rfl w.heap.size 5 i0 (.int .u8 0) 1 1 Tryd.underlying37 hi0 hz0 hz1 hz2 rfl (by decide) _ j _ rfl (HOW.out.alloc _) ⟨wo.heap.size, 0, none⟩ 1 1 [.int .u8 y] rfl rfl ?c1 ?c2 ?c3 ?c4 ?c5 ?_))
          case c1 => exact cell_one_new _ _ _
          case c2 => intro u hu; rw [List.mem_singleton.1 hu]; rfl
          case c3 => unfold maxLen; omega
          case c4 => omega
          case c5 => simp; omega
          intro v' w' hown' hgr _
          have HW : Hid (w'.ownsRow w.heap.size 5 1 v' (j + 1) (ints .u8 (refL (strL s) (j + 1))) ∧ Below w.heap.size w w') := Lib.hid ⟨by rw [← HNX.out]; exact hown', (HBE.out.alloc hsz _).grown hgr (by simp; omega) (own_ge HOW.out)⟩
          clear hown' hgr
          go_wp2_with fail
          go_roundw
          case rel => exact ⟨j + 1, by have := HA.out; omega, by rw [show 6 * (j + 1) = a + 6 by have := HA.out; omega]; go_num, HW.out.1, HW.out.2⟩
          case measure => simp [intOf]; omega
    · have hltI : ¬ (a : Int) < 8 * (s.size : Int) := by omega
      have hjj : j = (8 * s.size + 5) / 6 := by have := HA.out; omega
      have hO := HOW.out
      rw [hjj] at hO
      rw [show refL (strL s) ((8 * s.size + 5) / 6) = encL (strL s) by rw [← length_strL s]; exact refL_enc _ fun x hx => (strL_bd s).mem hx] at hO
      obtain ⟨A, c, rfl, hc, hlie⟩ := own_lies hO (by rw [length_encL, length_strL])
      have hcv := conv_str A (encL (strL s)) ((8 * s.size + 5) / 6) c wr (by rw [length_encL, length_strL]) hlie
      have HTX : Hid (toS (encL (strL s)) = txt s) := Lib.hid rfl
      rw [HTX.out] at hcv
      obtain ⟨m, hm⟩ : ∃ m, m = (8 * s.size + 5) / 6 := ⟨_, rfl⟩
      rw [← hm] at hcv ⊢
      clear hO hc hlie hm hjj
      go_wp2_with fail
      go_ret
      exact ⟨rfl, HBE.out⟩
end Go.Proofs.YtdgpphihjeffcaaDoor
