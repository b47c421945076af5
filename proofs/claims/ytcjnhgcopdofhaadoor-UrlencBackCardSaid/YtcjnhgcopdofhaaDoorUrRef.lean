/- The walks of the reference's has, Escape, digit. -/
import Derived.Test.YtcjnhgcopdofhaaDoorUrGet
import Derived.Deep.RegionHeld3
import Derived.Deep.AppendLies
import Derived.IntWalk
import Derived.Maps.RangeWalk
namespace Go.Proofs.YtcjnhgcopdofhaaDoor
open Go Go.RowKit

def hasL : List Int → Int → Bool
  | [], _ => false
  | x :: r, c => decide (x = c) || hasL r c
set_option maxRecDepth 100000 in
set_option maxHeartbeats 1000000 in
theorem has_any (s : ByteArray) (c : Int) (w : World) (hs : s.size ≤ 1000000000) :
    Calls Tryd.prog 36 #[.string s, .int .u8 c] w fun e w' => e = .returned (.bool (hasL (strL s) c)) ∧ w = w' := by
  have HLEN := Lib.hid (length_strL s)
  go_enter Tryd.func36, Tryd.ntmps36
  go_wp2
  go_loop [5] (fun v => ∃ k : Nat, k ≤ s.size ∧ v = .int .i64 (k : Int) ∧ hasL (strL s) c = hasL ((strL s).drop k) c) (fun v => s.size - (intOf v).toNat)
  case atStart => exact ⟨0, Nat.zero_le _, rfl, rfl⟩
  case round =>
    obtain ⟨k, hk, rfl, hrun⟩ := hrel
    have HRUN := Lib.hid hrun
    clear hrun
    by_cases hlt : k < s.size
    · have hd := drop_str s k hlt
      have hi0 : (0 : Int) ≤ (k : Int) := by omega
      by_cases he : (s[k].toNat : Int) = c
      · have q0 : ((s[k].toNat : Int) == c) = true := by simp [he]
        have HR : Hid (hasL (strL s) c = true) := Lib.hid (by rw [HRUN.out, hd, hasL, he]; simp)
        clear hd he
        go_wp2
        go_ret
        rw [HR.out]; exact ⟨rfl, rfl⟩
      · have q0 : ((s[k].toNat : Int) == c) = false := by simp [he]
        have HR : Hid (hasL (strL s) c = hasL ((strL s).drop (k + 1)) c) := Lib.hid (by rw [HRUN.out, hd, hasL, decide_eq_false he]; rfl)
        clear hd he
        go_wp2
        go_round
        case rel => exact ⟨k + 1, by omega, by go_num, HR.out⟩
        case measure => simp [intOf]; omega
    · obtain rfl : k = s.size := by omega
      have HR : Hid (hasL (strL s) c = false) := Lib.hid (by rw [HRUN.out, List.drop_of_length_le (by rw [HLEN.out]; exact Nat.le_refl _)]; rfl)
      clear hlt
      go_wp2
      go_ret
      rw [HR.out]; exact ⟨rfl, rfl⟩
theorem has_tab : ∀ n : Fin 256, hasL (strL ⟨#[65, 66, 67, 68, 69, 70, 71, 72, 73, 74, 75, 76, 77, 78, 79, 80, 81, 82, 83, 84, 85, 86, 87, 88, 89, 90, 97, 98, 99, 100, 101, 102, 103, 104, 105, 106, 107, 108, 109, 110, 111, 112, 113, 114, 115, 116, 117, 118, 119, 120, 121, 122, 48, 49, 50, 51, 52, 53, 54, 55, 56, 57, 42, 45, 46, 95]⟩) (n.val : Int) = selfB n.val := by decide +kernel
theorem has_self (c : Int) (w : World) (h0 : 0 ≤ c) (h1 : c ≤ 255) :
    Calls Tryd.prog 36 #[.string ⟨#[65, 66, 67, 68, 69, 70, 71, 72, 73, 74, 75, 76, 77, 78, 79, 80, 81, 82, 83, 84, 85, 86, 87, 88, 89, 90, 97, 98, 99, 100, 101, 102, 103, 104, 105, 106, 107, 108, 109, 110, 111, 112, 113, 114, 115, 116, 117, 118, 119, 120, 121, 122, 48, 49, 50, 51, 52, 53, 54, 55, 56, 57, 42, 45, 46, 95]⟩, .int .u8 c] w fun e w' => e = .returned (.bool (selfB c)) ∧ w = w' := by
  obtain ⟨m, rfl⟩ := Int.eq_ofNat_of_zero_le h0
  have := has_tab ⟨m, by omega⟩
  refine (has_any _ (m : Int) w (by decide)).mono ?_
  rintro e w' ⟨rfl, rfl⟩
  exact ⟨by rw [← this], rfl⟩

/-! ### Escape -/
set_option maxRecDepth 100000 in
set_option maxHeartbeats 4000000 in
theorem refEscape_any (s : ByteArray) (w : World) (hs : s.size ≤ 1000000000) :
    Calls Tryd.prog 21 #[.string s] w fun e w' => e = .returned (.string (toS (escL (strL s)))) ∧ Below w.heap.size w w' := by
  have HLEN := Lib.hid (length_strL s)
  obtain ⟨i0, hi0, hz0, hz1, hz2⟩ := info_parts byteInfo
  have HO0 := Lib.hid (World.ownsRow_lit w #[] 0 (Nat.le_refl _) (by unfold maxLen; omega) rfl : (w.alloc (.cells #[] 5)).ownsRow w.heap.size 5 1 (.slice (some ⟨w.heap.size, 0, none⟩) 0 0) 0 [])
  go_enter Tryd.func21, Tryd.ntmps21
  go_wp2
  go_loopw [3, 4] (fun v i wr => ∃ (k n : Nat) (xs : List Int), k ≤ s.size ∧ i = .int .i64 (k : Int) ∧ xs = escL ((strL s).take k) ∧ xs.length = n ∧ n ≤ 3 * k ∧ wr.ownsRow w.heap.size 5 1 v n (ints .u8 xs) ∧ Below w.heap.size w wr) (fun _ i _ => s.size - (intOf i).toNat)
  case atStart => exact ⟨0, 0, [], by omega, rfl, rfl, rfl, by omega, HO0.out, belowAlloc _ _⟩
  case round =>
    clear HO0
    obtain ⟨k, n, xs, hk, rfl, hxs, hn, hn3, hown, hbel⟩ := hrel
    have HOW := Lib.hid hown
    have HBE := Lib.hid hbel
    have HXS := Lib.hid hxs
    have HN := Lib.hid hn
    have hsz : w.heap.size ≤ wr.heap.size := hbel.size
    clear hown hbel hxs hn
    by_cases h : k < s.size
    · have hkI : (k : Int) < (s.size : Int) := by omega
      have hk0 : (0 : Int) ≤ (k : Int) := by omega
      have hcb := s[k].toNat_lt
      have HNX : Hid (escL ((strL s).take (k + 1)) = xs ++ spellB (s[k].toNat : Int)) := Lib.hid (by rw [take_snoc_str s k h, escL_append, escL_one, HXS.out])
      have HHS := Lib.hid (fun W : World => has_self (s[k].toNat : Int) W (by omega) (by omega))
      cases hs : selfB (s[k].toNat : Int) with
      | true =>
        rw [hs] at HHS
        have HE : Hid (spellB (s[k].toNat : Int) = [(s[k].toNat : Int)]) := Lib.hid (by unfold spellB; rw [if_pos hs])
        clear hs hcb
        go_wp2_with (first
          | (go_at_call 36; (with_reducible refine (HHS.out _).mono ?_); rintro e w1 ⟨rfl, rfl⟩)
          | (at_builtin; refine wpList_append_own _ rfl (.tmp 28) (.tmp 30) 62 rfl w.heap.size 5 i0 (.int .u8 0) 1 1 Tryd.underlying62 hi0 hz0 hz1 hz2 rfl (by decide) _ n _ rfl (HOW.out.alloc _) ⟨wr.heap.size, 0, none⟩ 1 1 [.int .u8 (s[k].toNat : Int)] rfl rfl ?c1 ?c2 ?c3 ?c4 ?c5 ?_))
        case c1 => exact cell_one_new _ _ _
        case c2 => first | rfl | (intro u hu; rw [List.mem_singleton.1 hu]; rfl)
        case c3 => unfold maxLen; omega
        case c4 => omega
        case c5 => first | omega | (simp; omega)
        intro v' w' hown' hgr _
        have HW : Hid (w'.ownsRow w.heap.size 5 1 v' (n + 1) (ints .u8 (xs ++ [(s[k].toNat : Int)])) ∧ Below w.heap.size w w') := Lib.hid ⟨by rw [ints_append]; exact hown', (HBE.out.alloc hsz _).grown hgr (by simp; omega) (own_ge HOW.out)⟩
        clear hown' hgr
        go_wp2_with fail
        go_roundw
        case rel => exact ⟨k + 1, n + 1, _, by omega, by go_num, by rw [HNX.out, HE.out], by rw [List.length_append, HN.out]; rfl, by omega, HW.out.1, HW.out.2⟩
        case measure => simp [intOf]; omega
      | false =>
        rw [hs] at HHS
        by_cases h32 : (s[k].toNat : Int) = 32
        · have HE : Hid (spellB (s[k].toNat : Int) = [43]) := Lib.hid (by unfold spellB; rw [if_neg (by rw [hs]; simp), if_pos h32])
          have q0 : ((s[k].toNat : Int) == 32) = true := by simp [h32]
          clear hs hcb h32
          go_wp2_with (first
            | (go_at_call 36; (with_reducible refine (HHS.out _).mono ?_); rintro e w1 ⟨rfl, rfl⟩)
            | (at_builtin; refine wpList_append_own _ rfl (.tmp 35) (.tmp 36) 62 rfl w.heap.size 5 i0 (.int .u8 0) 1 1 Tryd.underlying62 hi0 hz0 hz1 hz2 rfl (by decide) _ n _ rfl (HOW.out.alloc _) ⟨wr.heap.size, 0, none⟩ 1 1 [.int .u8 43] rfl rfl ?d1 ?d2 ?d3 ?d4 ?d5 ?_))
          case d1 => exact cell_one_new _ _ _
          case d2 => first | rfl | (intro u hu; rw [List.mem_singleton.1 hu]; rfl)
          case d3 => unfold maxLen; omega
          case d4 => omega
          case d5 => first | omega | (simp; omega)
          intro v' w' hown' hgr _
          have HW : Hid (w'.ownsRow w.heap.size 5 1 v' (n + 1) (ints .u8 (xs ++ [43])) ∧ Below w.heap.size w w') := Lib.hid ⟨by rw [ints_append]; exact hown', (HBE.out.alloc hsz _).grown hgr (by simp; omega) (own_ge HOW.out)⟩
          clear hown' hgr
          go_wp2_with fail
          go_roundw
          case rel => exact ⟨k + 1, n + 1, _, by omega, by go_num, by rw [HNX.out, HE.out], by rw [List.length_append, HN.out]; rfl, by omega, HW.out.1, HW.out.2⟩
          case measure => simp [intOf]; omega
        · obtain ⟨c, hc⟩ : ∃ c : Int, c = (s[k].toNat : Int) := ⟨_, rfl⟩
          have hc2 : (s[k].toNat : Int) = c := hc.symm
          have HE : Hid (spellB c = [37, hexU (c / 16), hexU (c % 16)]) := Lib.hid (by rw [hc]; unfold spellB; rw [if_neg (by rw [hs]; simp), if_neg h32])
          have q0 : ((s[k].toNat : Int) == 32) = false := by simp [h32]
          have c0 : 0 ≤ c := by omega
          have c1 : c ≤ 255 := by omega
          rw [hc2] at q0 HHS HNX
          have htd : c.tdiv 16 = c / 16 := Int.tdiv_eq_ediv_of_nonneg c0
          have htm : c.tmod 16 = c % 16 := Int.tmod_eq_emod_of_nonneg c0
          have hwq : IntKind.u8.wrap (c / 16) = c / 16 := by rw [IntKind.wrap_u8]; omega
          have hwr : IntKind.u8.wrap (c % 16) = c % 16 := by rw [IntKind.wrap_u8]; omega
          have i1 := fun W : World => index_hex .u8 (c / 16) (by omega) (by omega) W
          have i2 := fun W : World => index_hex .u8 (c % 16) (by omega) (by omega) W
          obtain ⟨x, hx⟩ : ∃ x, x = hexU (c / 16) := ⟨_, rfl⟩
          obtain ⟨y, hy⟩ : ∃ y, y = hexU (c % 16) := ⟨_, rfl⟩
          rw [← hx] at i1 HE
          rw [← hy] at i2 HE
          clear hs hcb h32 hc hx hy
          go_wp2_with (go_at_call 36; (with_reducible refine (HHS.out _).mono ?_); rintro e w1 ⟨rfl, rfl⟩)
          go_region_held3 (fun _ => True) (trivial)
            ((refine step_append_lies _ (by rfl) _ _ _ (by rfl) w.heap.size 5 i0 _ 1 1 Tryd.underlying62 hi0 hz0 hz1 hz2 rfl (by omega) u3 n (ints .u8 xs) (by rfl) ((HOW.out.alloc _).drew)
                ⟨wr.heap.size, 0, none⟩ 3 3 [.int .u8 37, .int .u8 x, .int .u8 y] (by rfl) (by rfl) (World.news_of_block (cs := #[.int .u8 37, .int .u8 x, .int .u8 y]) (t := 5) (fr := (0, 0)) (heap_alloc_new wr _)) (by simp [Value.oneCell'])
                (by omega) (by unfold maxLen; omega) (by omega) (by simp; omega) (wr.heap.size + 1) (by simp) ?_; intro gg cap w1' hown1 hgrow hat hlt2))
          all_goals
            have HW : Hid (w1'.ownsRow w.heap.size 5 1 (.slice (some ⟨gg, 0, none⟩) (n + 3) cap) (n + 3) (ints .u8 (xs ++ [37, x, y])) ∧ Below w.heap.size w w1') := Lib.hid ⟨by rw [ints_append]; exact hown1, (HBE.out.alloc hsz _).drew.grown hgrow (by simp; omega) (own_ge HOW.out)⟩
            clear hown1 hgrow hat hlt2
            go_wp2_with fail
            exact ⟨⟨k + 1, n + 3, _, by omega, by go_num, by rw [HNX.out, HE.out], by rw [List.length_append, HN.out]; rfl, by omega, HW.out.1, HW.out.2⟩, by simp [intOf]; omega⟩
    · obtain rfl : k = s.size := by omega
      have hkI : ¬ (s.size : Int) < (s.size : Int) := by omega
      have HE : Hid (xs = escL (strL s)) := Lib.hid (by rw [HXS.out, List.take_of_length_le (by rw [HLEN.out]; exact Nat.le_refl _)])
      obtain ⟨A, c, rfl, _, hlie⟩ := own_lies HOW.out HN.out
      have hcv := conv_str A xs n c wr HN.out hlie
      obtain ⟨T, hT⟩ : ∃ T, T = toS xs := ⟨_, rfl⟩
      have HT : Hid (T = toS (escL (strL s))) := Lib.hid (by rw [hT, HE.out])
      rw [← hT] at hcv
      clear hlie hT h
      go_wp2_with fail
      go_ret
      rw [HT.out]
      exact ⟨rfl, HBE.out⟩
end Go.Proofs.YtcjnhgcopdofhaaDoor
