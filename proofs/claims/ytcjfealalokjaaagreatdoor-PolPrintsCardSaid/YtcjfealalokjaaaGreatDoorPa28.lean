/- LxRefQ: merged. -/
import Derived.Deep.AppendLies
import Derived.Test.YtcjfealalokjaaaGreatDoorPa10
import Derived.Test.YtcjfealalokjaaaGreatDoorPa27
set_option linter.all false
namespace Go.Proofs.YtcjfealalokjaaaGreatDoor
open Go Go.RowKit
theorem quoteEnd {xs : List Int} : ints .u8 (xs ++ [34]) = ints .u8 xs ++ [.int .u8 34] := by rw [ints_append]; rfl
theorem info5 : (Tryz.prog.info? 5).map (fun i => (i.zero, i.size, i.bytes)) = some (some (.int .u8 0), 1, 1) := by kernel_rfl
theorem cell_oneN (w : World) (v : Value) (t : TypeId) : ∀ i u, [v][i]? = some u → (w.alloc (.cells #[v] t)).cell? ((⟨w.heap.size, 0, none⟩ : Addr).add i) = some u := fun i u hi => by
  match i, hi with
  | 0, hi => simp at hi; subst hi; simp [Addr.add]
set_option maxRecDepth 100000 in
set_option maxHeartbeats 8000000 in
theorem refQuoteX_any (s : ByteArray) (w : World) (hs : s.size ≤ 1000000) :
    Calls Tryz.prog 40 #[.string s] w fun e w' => e = .returned (.tuple #[.string (toS (quoteN (strL s)).1), .bool (quoteN (strL s)).2]) ∧ Below w.heap.size w w' := by
  have HRB := Lib.hid (fun W : World => refBad_any s W (by omega))
  unfold badR at HRB
  have HL := Lib.hid (length_strL s)
  obtain ⟨i0, hi0, hz0, hz1, hz2⟩ := info_parts info5
  go_enter Tryz.func40, Tryz.ntmps40
  by_cases hbad : badU (strL s) = (strL s).length
  case neg =>
    rw [if_neg hbad] at HRB
    have HQN := Lib.hid (quote_no hbad)
    have hge : (0 : Int) ≤ (badU (strL s) : Int) := by omega
    clear hbad
    go_wp2_with fail
    refine (HRB.out _).mono ?_
    rintro e w1 ⟨rfl, hb1⟩
    have HB1 := Lib.hid hb1
    clear hb1
    go_wp2_with fail
    go_ret2
    rw [HQN.out]
    exact ⟨rfl, HB1.out⟩
  rw [if_pos hbad] at HRB
  have HBAD := Lib.hid hbad
  clear hbad
  go_wp2_with fail
  refine (HRB.out _).mono ?_
  rintro e w1 ⟨rfl, hb1⟩
  have HB1 := Lib.hid hb1
  clear hb1
  have hown0 : (w1.alloc (.cells #[.int .u8 34] 5)).ownsRow w1.heap.size 5 1 (.slice (some ⟨w1.heap.size, 0, none⟩) 1 1) 1 [.int .u8 34] := World.ownsRow_lit w1 #[.int .u8 34] 1 (Nat.le_refl _) (by unfold maxLen; omega) rfl
  have HO0 := Lib.hid hown0
  clear hown0
  go_wp2_with fail
  go_loopw [4, 5] (fun v i wr => ∃ (k n : Nat) (xs : List Int), k ≤ s.size ∧ i = .int .i64 (k : Int) ∧ xs = 34 :: escN ((strL s).take k) ∧ n = xs.length ∧ n ≤ 2 * k + 1 ∧ Hid (∀ i, i < k → 32 ≤ (strL s).getD i 0) ∧ wr.ownsRow w1.heap.size 5 1 v n (ints .u8 xs) ∧ Below w1.heap.size w1 wr) (fun _ i _ => s.size - (intOf i).toNat)
  case atStart => exact ⟨0, 1, [34], by omega, rfl, rfl, rfl, by omega, Lib.hid (fun i h => absurd h (Nat.not_lt_zero _)), HO0.out, belowAlloc _ _⟩
  case round =>
    clear HO0
    obtain ⟨k, n, xs, hk, rfl, hxs, hn, hn6, HH, hown, hbel⟩ := hrel
    have HOW := Lib.hid hown
    have HBE := Lib.hid hbel
    have HXS := Lib.hid hxs
    have HN := Lib.hid hn
    have hsz : w1.heap.size ≤ wr.heap.size := hbel.size
    clear hown hbel hxs hn
    by_cases h : k < s.size
    · have HG := Lib.hid (strL_get s k h)
      have hkI : (k : Int) < (s.size : Int) := by omega
      have hk0 : (0 : Int) ≤ (k : Int) := by omega
      have HQ : Hid (∀ c, (s[k].toNat : Int) = c → 34 :: escN ((strL s).take (k + 1)) = xs ++ esc1 c) := Lib.hid fun c hc => by rw [escN_take (strL s) k (by rw [HL.out]; exact h), HXS.out, HG.out, hc]; rfl
      obtain ⟨c, hc⟩ : ∃ c : Int, c = (s[k].toNat : Int) := ⟨_, rfl⟩
      have hcb : 0 ≤ c ∧ c ≤ 255 := by rw [hc]; have := (s[k]).toNat_lt; omega
      have HNX := Lib.hid (HQ.out c hc.symm)
      obtain ⟨c0, c1⟩ := hcb
      have HLO := Lib.hid (fun hc => quote_low (l := strL s) (k := k) (by rw [HL.out]; exact h) hc)
      rw [HG.out] at HLO
      have HHN : Hid (¬ (s[k].toNat : Int) < 32 → ∀ i, i < k + 1 → 32 ≤ (strL s).getD i 0) := Lib.hid fun h32 i hi => by
        rcases Nat.lt_or_ge i k with h' | h'
        · exact HH.out i h'
        · obtain rfl : i = k := by omega
          rw [HG.out]; omega
      by_cases h32 : c < 32
      · have HQN := Lib.hid (HLO.out (by rw [← hc]; exact h32))
        have hc2 : (s[k].toNat : Int) < 32 := by rw [← hc]; exact h32
        clear hc h32 HLO
        go_wp2_with fail
        go_ret2
        rw [HQN.out]
        exact ⟨rfl, HB1.out.trans (HBE.out.mono HB1.out.size)⟩
      · by_cases hq : c = 34 ∨ c = 92
        · have HE : Hid (esc1 c = [92, c]) := Lib.hid (by unfold esc1; rw [if_pos hq])
          have HH2 : Hid (∀ i, i < k + 1 → 32 ≤ (strL s).getD i 0) := Lib.hid (HHN.out (by rw [← hc]; exact h32))
          have hnl : ¬ (s[k].toNat : Int) < 32 := by rw [← hc]; exact h32
          rw [hc] at HE HNX hq
          have key : ((s[k].toNat : Int) == 34) = true ∨ ((s[k].toNat : Int) == 34) = false ∧ ((s[k].toNat : Int) == 92) = true := by
            rcases hq with hq | hq
            · exact .inl (by rw [beq_iff_eq]; exact hq)
            · exact .inr ⟨by rw [hq]; rfl, by rw [beq_iff_eq]; exact hq⟩
          clear hq hc h32 c0 c1
          rcases key with n1 | ⟨n1, n2⟩
          · go_wp2_with (first
              | (at_builtin; refine wpList_append_own _ rfl (.tmp 30) (.tmp 31) 73 rfl w1.heap.size 5 i0 (.int .u8 0) 1 1 Tryz.underlying73 hi0 hz0 hz1 hz2 rfl (by decide) _ n _ rfl (HOW.out.alloc _) ⟨wr.heap.size, 0, none⟩ 1 1 [.int .u8 92] rfl rfl ?e1 ?e2 ?e3 ?e4 ?e5 ?_))
            case e2 => first | rfl | (intro u hu; rw [List.mem_singleton.1 hu]; rfl)
            case e3 => unfold maxLen; omega
            case e4 => omega
            case e5 => first | omega | (simp; omega)
            intro v' w' hown' hgr _
            have HW : Hid (w'.ownsRow w1.heap.size 5 1 v' (n + 1) (ints .u8 (xs ++ [92])) ∧ Below w1.heap.size w1 w') := Lib.hid ⟨by rw [ints_append]; exact hown', (HBE.out.alloc hsz _).grown hgr (by simp; omega) (own_ge HOW.out)⟩
            have hsz2 : w1.heap.size ≤ w'.heap.size := HW.out.2.size
            clear hown' hgr
            go_wp2_with (first
              | (at_builtin; refine wpList_append_own _ rfl (.tmp 33) (.tmp 37) 73 rfl w1.heap.size 5 i0 (.int .u8 0) 1 1 Tryz.underlying73 hi0 hz0 hz1 hz2 rfl (by decide) _ (n + 1) _ rfl (HW.out.1.alloc _) ⟨w'.heap.size, 0, none⟩ 1 1 [.int .u8 (s[k].toNat : Int)] rfl rfl ?ey1 ?ey2 ?ey3 ?ey4 ?ey5 ?_))
            case ey1 => exact cell_oneN _ _ _
            case ey3 => unfold maxLen; omega
            case ey4 => omega
            case ey2 => first | rfl | (intro u hu; rw [List.mem_singleton.1 hu]; rfl)
            case ey5 => first | omega | (simp; omega)
            intro v2 w2 hown2 hgr2 _
            have HW2 : Hid (w2.ownsRow w1.heap.size 5 1 v2 (n + 2) (ints .u8 (xs ++ [92, (s[k].toNat : Int)])) ∧ Below w1.heap.size w1 w2) := Lib.hid ⟨by rw [show xs ++ [92, (s[k].toNat : Int)] = (xs ++ [92]) ++ [(s[k].toNat : Int)] by simp, ints_append]; exact hown2, (HW.out.2.alloc hsz2 _).grown hgr2 (by simp; omega) (own_ge HW.out.1)⟩
            clear hown2 hgr2
            go_wp2_with fail
            go_roundw
            case rel => exact ⟨k + 1, n + 2, _, by omega, by go_num, by rw [HNX.out, HE.out], by rw [List.length_append, ← HN.out]; rfl, by omega, HH2, HW2.out.1, HW2.out.2⟩
            case measure => simp [intOf]; omega
          · go_wp2_with (first
              | (at_builtin; refine wpList_append_own _ rfl (.tmp 30) (.tmp 31) 73 rfl w1.heap.size 5 i0 (.int .u8 0) 1 1 Tryz.underlying73 hi0 hz0 hz1 hz2 rfl (by decide) _ n _ rfl (HOW.out.alloc _) ⟨wr.heap.size, 0, none⟩ 1 1 [.int .u8 92] rfl rfl ?f1 ?f2 ?f3 ?f4 ?f5 ?_))
            case f2 => first | rfl | (intro u hu; rw [List.mem_singleton.1 hu]; rfl)
            case f3 => unfold maxLen; omega
            case f4 => omega
            case f5 => first | omega | (simp; omega)
            intro v' w' hown' hgr _
            have HW : Hid (w'.ownsRow w1.heap.size 5 1 v' (n + 1) (ints .u8 (xs ++ [92])) ∧ Below w1.heap.size w1 w') := Lib.hid ⟨by rw [ints_append]; exact hown', (HBE.out.alloc hsz _).grown hgr (by simp; omega) (own_ge HOW.out)⟩
            have hsz2 : w1.heap.size ≤ w'.heap.size := HW.out.2.size
            clear hown' hgr
            go_wp2_with (first
              | (at_builtin; refine wpList_append_own _ rfl (.tmp 33) (.tmp 37) 73 rfl w1.heap.size 5 i0 (.int .u8 0) 1 1 Tryz.underlying73 hi0 hz0 hz1 hz2 rfl (by decide) _ (n + 1) _ rfl (HW.out.1.alloc _) ⟨w'.heap.size, 0, none⟩ 1 1 [.int .u8 (s[k].toNat : Int)] rfl rfl ?fy1 ?fy2 ?fy3 ?fy4 ?fy5 ?_))
            case fy1 => exact cell_oneN _ _ _
            case fy3 => unfold maxLen; omega
            case fy4 => omega
            case fy2 => first | rfl | (intro u hu; rw [List.mem_singleton.1 hu]; rfl)
            case fy5 => first | omega | (simp; omega)
            intro v2 w2 hown2 hgr2 _
            have HW2 : Hid (w2.ownsRow w1.heap.size 5 1 v2 (n + 2) (ints .u8 (xs ++ [92, (s[k].toNat : Int)])) ∧ Below w1.heap.size w1 w2) := Lib.hid ⟨by rw [show xs ++ [92, (s[k].toNat : Int)] = (xs ++ [92]) ++ [(s[k].toNat : Int)] by simp, ints_append]; exact hown2, (HW.out.2.alloc hsz2 _).grown hgr2 (by simp; omega) (own_ge HW.out.1)⟩
            clear hown2 hgr2
            go_wp2_with fail
            go_roundw
            case rel => exact ⟨k + 1, n + 2, _, by omega, by go_num, by rw [HNX.out, HE.out], by rw [List.length_append, ← HN.out]; rfl, by omega, HH2, HW2.out.1, HW2.out.2⟩
            case measure => simp [intOf]; omega
        · have n1 : (c == 34) = false := by rw [beq_eq_false_iff_ne]; omega
          have n2 : (c == 92) = false := by rw [beq_eq_false_iff_ne]; omega
          have HE : Hid (esc1 c = [c]) := Lib.hid (by unfold esc1; rw [if_neg hq])
          have HH2 : Hid (∀ i, i < k + 1 → 32 ≤ (strL s).getD i 0) := Lib.hid (HHN.out (by rw [← hc]; exact h32))
          have hnl : ¬ (s[k].toNat : Int) < 32 := by rw [← hc]; exact h32
          rw [hc] at n1 n2 HE HNX
          clear hq hc h32 c0 c1
          go_wp2_with (first
            | (at_builtin; refine wpList_append_own _ rfl (.tmp 33) (.tmp 37) 73 rfl w1.heap.size 5 i0 (.int .u8 0) 1 1 Tryz.underlying73 hi0 hz0 hz1 hz2 rfl (by decide) _ n _ rfl (HOW.out.alloc _) ⟨wr.heap.size, 0, none⟩ 1 1 [.int .u8 (s[k].toNat : Int)] rfl rfl ?c1 ?c2 ?c3 ?c4 ?c5 ?_))
          case c2 => first | rfl | (intro u hu; rw [List.mem_singleton.1 hu]; rfl)
          case c3 => unfold maxLen; omega
          case c4 => omega
          case c5 => first | omega | (simp; omega)
          intro v' w' hown' hgr _
          have HW : Hid (w'.ownsRow w1.heap.size 5 1 v' (n + 1) (ints .u8 (xs ++ [(s[k].toNat : Int)])) ∧ Below w1.heap.size w1 w') := Lib.hid ⟨by rw [ints_append]; exact hown', (HBE.out.alloc hsz _).grown hgr (by simp; omega) (own_ge HOW.out)⟩
          clear hown' hgr
          go_wp2_with fail
          go_roundw
          case rel => exact ⟨k + 1, n + 1, _, by omega, by go_num, by rw [HNX.out, HE.out], by rw [List.length_append, ← HN.out]; rfl, by omega, HH2, HW.out.1, HW.out.2⟩
          case measure => simp [intOf]; omega
    · obtain rfl : k = s.size := by omega
      have hkI : ¬ (s.size : Int) < (s.size : Int) := by omega
      have HQY := Lib.hid (quote_yes (l := strL s) HBAD.out (by rw [HL.out]; exact HH.out))
      have HE : Hid (34 :: (escN (strL s) ++ [34]) = xs ++ [34]) := Lib.hid (by rw [HXS.out, List.take_of_length_le (by rw [HL.out]; exact Nat.le_refl _)]; rfl)
      go_wp2_with (first
        | (at_builtin; refine wpList_append_own _ rfl (.tmp 39) (.tmp 40) 73 rfl w1.heap.size 5 i0 (.int .u8 0) 1 1 Tryz.underlying73 hi0 hz0 hz1 hz2 rfl (by decide) _ n _ rfl (HOW.out.alloc _) ⟨wr.heap.size, 0, none⟩ 1 1 [.int .u8 34] rfl rfl ?d1 ?d2 ?d3 ?d4 ?d5 ?_))
      case d2 => first | rfl | (intro u hu; rw [List.mem_singleton.1 hu]; rfl)
      case d3 => unfold maxLen; omega
      case d4 => omega
      case d5 => first | omega | (simp; omega)
      intro v' w' hown' hgr _
      have hO : w'.ownsRow w1.heap.size 5 1 v' (n + 1) (ints .u8 (xs ++ [34])) := by rw [quoteEnd]; exact hown'
      have HB := Lib.hid ((HBE.out.alloc hsz (.cells #[.int .u8 34] 5)).grown hgr (by simp; omega) (own_ge HOW.out))
      obtain ⟨A, c, rfl, _, hlie⟩ := own_lies hO (by rw [List.length_append, ← HN.out]; rfl)
      have hcv := conv_str A (xs ++ [34]) (n + 1) c w' (by rw [List.length_append, ← HN.out]; rfl) hlie
      rw [← HE.out] at hcv
      obtain ⟨T, hT⟩ : ∃ T, T = toS (34 :: (escN (strL s) ++ [34])) := ⟨_, rfl⟩
      have HT := Lib.hid hT
      rw [← hT] at hcv
      obtain ⟨m, hm⟩ : ∃ m, m = n + 1 := ⟨_, rfl⟩
      rw [← hm] at hcv
      rw [← hm]
      clear hown' hgr hO hlie hT hm
      go_wp2_with fail
      go_ret2
      rw [HQY.out, ← HT.out]
      exact ⟨rfl, HB1.out.trans (HB.out.mono HB1.out.size)⟩
end Go.Proofs.YtcjfealalokjaaaGreatDoor
