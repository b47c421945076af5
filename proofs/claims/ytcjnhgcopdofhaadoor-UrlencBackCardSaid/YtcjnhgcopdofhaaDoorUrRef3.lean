/- The walk of the reference's Unescape; its Get. -/
import Derived.Test.YtcjnhgcopdofhaaDoorUrRef2
namespace Go.Proofs.YtcjnhgcopdofhaaDoor
open Go Go.RowKit

theorem own_app {w wr w' : World} {B n : Nat} {xs : List Int} {x : Int} {v v' : Value} {o : Obj} (hO : wr.ownsRow B 5 1 v n (ints .u8 xs)) (hB : Below B w wr) (hs : B ≤ wr.heap.size) (hown : w'.ownsRow B 5 1 v' (n + 1) (ints .u8 xs ++ [.int .u8 x])) (hgr : (wr.alloc o).grownBy w' v.ownBlock) :
    w'.ownsRow B 5 1 v' (n + 1) (ints .u8 (xs ++ [x])) ∧ Below B w w' :=
  ⟨by rw [ints_append]; exact hown, (hB.alloc hs _).grown hgr (by simp; omega) (own_ge hO)⟩
/-- What Unescape tells: the text, the place of what is wrong (-1: nowhere). -/
def unescL (l : List Int) : List Int × Int := if looseL l < l.length then ([], (looseL l : Int)) else (meanL l, -1)
set_option maxRecDepth 100000 in
set_option maxHeartbeats 4000000 in
theorem refUnescape_any (s : ByteArray) (w : World) (hs : s.size ≤ 1000000000) :
    Calls Tryd.prog 19 #[.string s] w fun e w' => e = .returned (.tuple #[.string (toS (unescL (strL s)).1), .int .i64 (unescL (strL s)).2]) ∧ Below w.heap.size w w' := by
  have HLEN := Lib.hid (length_strL s)
  obtain ⟨i0, hi0, hz0, hz1, hz2⟩ := info_parts byteInfo
  have HO0 := Lib.hid (World.ownsRow_lit w #[] 0 (Nat.le_refl _) (by unfold maxLen; omega) rfl : (w.alloc (.cells #[] 5)).ownsRow w.heap.size 5 1 (.slice (some ⟨w.heap.size, 0, none⟩) 0 0) 0 [])
  go_enter Tryd.func19, Tryd.ntmps19
  go_wp2
  go_loopw [4, 5] (fun v i wr => ∃ (k n : Nat) (xs : List Int), k ≤ s.size ∧ i = .int .i64 (k : Int) ∧ looseL (strL s) = k + looseL ((strL s).drop k) ∧ xs ++ meanL ((strL s).drop k) = meanL (strL s) ∧ xs.length = n ∧ n ≤ k ∧ wr.ownsRow w.heap.size 5 1 v n (ints .u8 xs) ∧ Below w.heap.size w wr) (fun _ i _ => s.size - (intOf i).toNat)
  case atStart => exact ⟨0, 0, [], by omega, rfl, by simp, by simp, rfl, by omega, HO0.out, belowAlloc _ _⟩
  case round =>
    clear HO0
    obtain ⟨k, n, xs, hk, rfl, hlo, hme, hn, hnk, hown, hbel⟩ := hrel
    have HOW := Lib.hid hown
    have HBE := Lib.hid hbel
    have HLO := Lib.hid hlo
    have HME := Lib.hid hme
    have HN := Lib.hid hn
    have hsz : w.heap.size ≤ wr.heap.size := hbel.size
    clear hown hbel hlo hme hn
    by_cases h : k < s.size
    · have hkI : (k : Int) < (s.size : Int) := by omega
      have hk0 : (0 : Int) ≤ (k : Int) := by omega
      have hd := drop_str s k h
      by_cases h37 : (s[k].toNat : Int) = 37
      · have q0 : ((s[k].toNat : Int) == 37) = true := by simp [h37]
        rw [h37] at hd
        have hsp := spelt_dg (strL s) k hd
        have HA := Lib.hid (fun W : World => digit_any s (k + 1) ((k : Int) + 1) (by omega) W hs)
        have HB := Lib.hid (fun W : World => digit_any s (k + 2) ((k : Int) + 2) (by omega) W hs)
        have bA := dgL_bd (strL s) (k + 1)
        have bB := dgL_bd (strL s) (k + 2)
        cases hc : spelt ((strL s).drop k) with
        | false =>
          rw [hc] at hsp
          have hor := of_decide_eq_false hsp.symm
          have HR : Hid (looseL (strL s) = k) := Lib.hid (by rw [HLO.out, hd, looseL_bad (by rw [← hd]; exact hc)]; rfl)
          have HRR : Hid (unescL (strL s) = ([], (k : Int))) := Lib.hid (by rw [unescL, HR.out, if_pos (by rw [HLEN.out]; exact h)])
          obtain ⟨x, hx⟩ : ∃ x, x = dgL (strL s) (k + 1) := ⟨_, rfl⟩
          obtain ⟨y, hy⟩ : ∃ y, y = dgL (strL s) (k + 2) := ⟨_, rfl⟩
          rw [← hx] at HA bA hor
          rw [← hy] at HB bB hor
          by_cases hx0 : x < 0
          · clear hx hy hor hsp hc h37 hd
            go_wp2_with (first
              | (go_at_call 32; (with_reducible refine (HA.out _).mono ?_); rintro e w1 ⟨rfl, hb⟩; have HB1 := Lib.hid (HBE.out.trans (hb.mono HBE.out.size)); clear hb)
              | (go_at_call 32; (with_reducible refine (HB.out _).mono ?_); rintro e w2 ⟨rfl, hb⟩; have HB2 := Lib.hid (HB1.out.trans (hb.mono HB1.out.size)); clear hb))
            go_ret2
            rw [HRR.out]
            exact ⟨rfl, HB2.out⟩
          · have hy0 : y < 0 := by omega
            clear hx hy hor hsp hc h37 hd
            go_wp2_with (first
              | (go_at_call 32; (with_reducible refine (HA.out _).mono ?_); rintro e w1 ⟨rfl, hb⟩; have HB1 := Lib.hid (HBE.out.trans (hb.mono HBE.out.size)); clear hb)
              | (go_at_call 32; (with_reducible refine (HB.out _).mono ?_); rintro e w2 ⟨rfl, hb⟩; have HB2 := Lib.hid (HB1.out.trans (hb.mono HB1.out.size)); clear hb))
            go_ret2
            rw [HRR.out]
            exact ⟨rfl, HB2.out⟩
        | true =>
          rw [hc] at hsp
          have hand := of_decide_eq_true hsp.symm
          obtain ⟨a, b, r, he, ha, hb⟩ := spelt_cons hc
          have hl3 := congrArg List.length he
          simp only [List.length_cons, List.length_drop, HLEN.out] at hl3
          have er : (strL s).drop (k + 3) = r := by rw [← List.drop_drop, he]; rfl
          have ea : dgL (strL s) (k + 1) = hexW a := by
            have : ((strL s).drop k).getD 1 0 = a := by rw [he]; rfl
            unfold dgL
            rw [if_pos (by rw [HLEN.out]; omega), ← this, List.getD_eq_getElem?_getD, List.getD_eq_getElem?_getD, List.getElem?_drop]
          have eb : dgL (strL s) (k + 2) = hexW b := by
            have : ((strL s).drop k).getD 2 0 = b := by rw [he]; rfl
            unfold dgL
            rw [if_pos (by rw [HLEN.out]; omega), ← this, List.getD_eq_getElem?_getD, List.getD_eq_getElem?_getD, List.getElem?_drop]
          have HR1 : Hid (looseL (strL s) = k + 3 + looseL ((strL s).drop (k + 3))) := Lib.hid (by rw [HLO.out, he, looseL_byte _ ha hb, er]; omega)
          have HR2 : Hid (xs ++ (16 * dgL (strL s) (k + 1) + dgL (strL s) (k + 2)) :: meanL ((strL s).drop (k + 3)) = meanL (strL s)) := Lib.hid (by rw [← HME.out, he, meanL_byte, er, ea, eb])
          obtain ⟨x, hx⟩ : ∃ x, x = dgL (strL s) (k + 1) := ⟨_, rfl⟩
          obtain ⟨y, hy⟩ : ∃ y, y = dgL (strL s) (k + 2) := ⟨_, rfl⟩
          rw [← hx] at HA bA hand HR2
          rw [← hy] at HB bB hand HR2
          have x0 : ¬ x < 0 := by omega
          have y0 : ¬ y < 0 := by omega
          have x1 : 0 ≤ x := by omega
          have y1 : 0 ≤ y := by omega
          have hk3 : k + 3 ≤ s.size := by omega
          have s5 : IntKind.u8.wrap (16 * x + y) = 16 * x + y := by rw [IntKind.wrap_u8]; omega
          have s6 : (16 * x + y) % 256 = 16 * x + y := by omega
          clear hx hy hand hsp hc h37 hd he ha hb er ea eb hl3
          go_wp2_with (first
            | (go_at_call 32; (with_reducible refine (HA.out _).mono ?_); rintro e w1 ⟨rfl, hb⟩; have HB1 := Lib.hid hb; clear hb)
            | (go_at_call 32; (with_reducible refine (HB.out _).mono ?_); rintro e w2 ⟨rfl, hb⟩; have HB2 := Lib.hid (HB1.out.trans (hb.mono HB1.out.size)); have hq2 : w.heap.size ≤ w2.heap.size := Nat.le_trans hsz HB2.out.size; clear hb)
            | (at_builtin; refine wpList_append_own _ rfl (.tmp 41) (.tmp 47) 62 rfl w.heap.size 5 i0 (.int .u8 0) 1 1 Tryd.underlying62 hi0 hz0 hz1 hz2 rfl (by decide) _ n _ rfl ((HOW.out.kept (row := none) (grownBy_of_below HB2.out none) (Classical.em _)).alloc _) ⟨w2.heap.size, 0, none⟩ 1 1 [.int .u8 (16 * x + y)] rfl rfl ?c1 ?c2 ?c3 ?c4 ?c5 ?_))
          case c1 => exact cell_one_new _ _ _
          case c2 => first | rfl | (intro u hu; rw [List.mem_singleton.1 hu]; rfl)
          case c3 => unfold maxLen; omega
          case c4 => omega
          case c5 => first | omega | (simp; omega)
          intro v' w3 hown' hgr _
          have HW := Lib.hid (own_app (HOW.out.kept (row := none) (grownBy_of_below HB2.out none) (Classical.em _)) (HBE.out.trans (HB2.out.mono hsz)) hq2 hown' hgr)
          clear hown' hgr s5 s6
          go_wp2_with fail
          go_roundw
          case rel => exact ⟨k + 3, n + 1, _, by omega, by go_num, HR1.out, by rw [← HR2.out]; simp, by rw [List.length_append, HN.out]; rfl, by omega, HW.out.1, HW.out.2⟩
          case measure => simp [intOf]; omega
      · have q0 : ((s[k].toNat : Int) == 37) = false := by simp [h37]
        have HR1 : Hid (looseL (strL s) = k + 1 + looseL ((strL s).drop (k + 1))) := Lib.hid (by rw [HLO.out, hd, looseL_one _ h37]; omega)
        have HR2 : Hid (xs ++ oneM (s[k].toNat : Int) :: meanL ((strL s).drop (k + 1)) = meanL (strL s)) := Lib.hid (by rw [← HME.out, hd, meanL_one _ h37])
        by_cases h43 : (s[k].toNat : Int) = 43
        · have q1 : ((s[k].toNat : Int) == 43) = true := by simp [h43]
          have HO : Hid (oneM (s[k].toNat : Int) = 32) := Lib.hid (by rw [oneM, if_pos h43])
          clear h37 h43 hd
          go_wp2_with (at_builtin; refine wpList_append_own _ rfl (.tmp 53) (.tmp 54) 62 rfl w.heap.size 5 i0 (.int .u8 0) 1 1 Tryd.underlying62 hi0 hz0 hz1 hz2 rfl (by decide) _ n _ rfl (HOW.out.alloc _) ⟨wr.heap.size, 0, none⟩ 1 1 [.int .u8 32] rfl rfl ?d1 ?d2 ?d3 ?d4 ?d5 ?_)
          case d1 => exact cell_one_new _ _ _
          case d2 => first | rfl | (intro u hu; rw [List.mem_singleton.1 hu]; rfl)
          case d3 => unfold maxLen; omega
          case d4 => omega
          case d5 => first | omega | (simp; omega)
          intro v' w3 hown' hgr _
          have HW := Lib.hid (own_app HOW.out HBE.out hsz hown' hgr)
          clear hown' hgr
          go_wp2_with fail
          go_roundw
          case rel => exact ⟨k + 1, n + 1, _, by omega, by go_num, HR1.out, by rw [← HR2.out, HO.out]; simp, by rw [List.length_append, HN.out]; rfl, by omega, HW.out.1, HW.out.2⟩
          case measure => simp [intOf]; omega
        · have q1 : ((s[k].toNat : Int) == 43) = false := by simp [h43]
          have HO : Hid (oneM (s[k].toNat : Int) = (s[k].toNat : Int)) := Lib.hid (by rw [oneM, if_neg h43])
          clear h37 h43 hd
          go_wp2_with (at_builtin; refine wpList_append_own _ rfl (.tmp 18) (.tmp 22) 62 rfl w.heap.size 5 i0 (.int .u8 0) 1 1 Tryd.underlying62 hi0 hz0 hz1 hz2 rfl (by decide) _ n _ rfl (HOW.out.alloc _) ⟨wr.heap.size, 0, none⟩ 1 1 [.int .u8 (s[k].toNat : Int)] rfl rfl ?f1 ?f2 ?f3 ?f4 ?f5 ?_)
          case f1 => exact cell_one_new _ _ _
          case f2 => first | rfl | (intro u hu; rw [List.mem_singleton.1 hu]; rfl)
          case f3 => unfold maxLen; omega
          case f4 => omega
          case f5 => first | omega | (simp; omega)
          intro v' w3 hown' hgr _
          have HW := Lib.hid (own_app HOW.out HBE.out hsz hown' hgr)
          clear hown' hgr
          go_wp2_with fail
          go_roundw
          case rel => exact ⟨k + 1, n + 1, _, by omega, by go_num, HR1.out, by rw [← HR2.out, HO.out]; simp, by rw [List.length_append, HN.out]; rfl, by omega, HW.out.1, HW.out.2⟩
          case measure => simp [intOf]; omega
    · obtain rfl : k = s.size := by omega
      have hkI : ¬ (s.size : Int) < (s.size : Int) := by omega
      have hd : (strL s).drop s.size = [] := List.drop_of_length_le (by rw [HLEN.out]; exact Nat.le_refl _)
      have HE : Hid (unescL (strL s) = (xs, -1)) := Lib.hid (by
        have h1 := HLO.out
        have h2 := HME.out
        rw [hd] at h1 h2
        rw [unescL, if_neg (by rw [HLEN.out]; simp [looseL] at h1; omega), ← h2]; simp [meanL])
      obtain ⟨A, c, rfl, _, hlie⟩ := own_lies HOW.out HN.out
      have hcv := conv_str A xs n c wr HN.out hlie
      obtain ⟨T, hT⟩ : ∃ T, T = toS xs := ⟨_, rfl⟩
      have HT := Lib.hid hT
      rw [← hT] at hcv
      clear hlie hT h hd
      go_wp2_with fail
      go_ret2
      rw [HE.out, ← HT.out]
      exact ⟨rfl, HBE.out⟩
end Go.Proofs.YtcjnhgcopdofhaaDoor
