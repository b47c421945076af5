/- LxSpell, PolRfG, PolRfG2: merged. -/
import Derived.Test.YtcjfealalokjaaaGreatDoorPa19
import Derived.Test.YtcjfealalokjaaaGreatDoorPa28
set_option linter.all false
namespace Go.Proofs.YtcjfealalokjaaaGreatDoor
open Go Go.RowKit
/-! ### The reference's -/
set_option maxRecDepth 100000 in
set_option maxHeartbeats 4000000 in
theorem refSpell_word (n p : Int) (s : ByteArray) (w : World) (hs : s.size ≤ 1000000) :
    Calls Tryz.prog 124 #[tokV 1 s n p] w fun e w' => e = .returned (.string (toS (spellN ⟨1, s, n, p⟩))) ∧ Below w.heap.size w w' := by
  have HL := Lib.hid (length_strL s)
  obtain ⟨U, hU⟩ : ∃ U, U = toS (spellN ⟨1, s, n, p⟩) := ⟨_, rfl⟩
  have HY : Hid (wordN (strL s) = s.size → s.size ≤ 32 → U = s) := Lib.hid fun h1 h2 => by
    rw [hU, show spellN ⟨1, s, n, p⟩ = if wordN (strL s) = s.size ∧ s.size ≤ 32 then strL s else [] from rfl, if_pos ⟨h1, h2⟩, toS_strL]
  have HN : Hid (¬ (wordN (strL s) = s.size ∧ s.size ≤ 32) → U = ⟨#[]⟩) := Lib.hid fun h => by
    rw [hU, show spellN ⟨1, s, n, p⟩ = if wordN (strL s) = s.size ∧ s.size ≤ 32 then strL s else [] from rfl, if_neg h]; rfl
  rw [← hU]
  clear hU
  have HB1 := Lib.hid (belowAlloc w (.cells #[.int .i64 1, .string s, .int .i64 n, .int .i64 p] 59))
  go_enter Tryz.func124, Tryz.ntmps124
  go_wp2_with fail
  go_loop [3] (fun i => ∃ k : Nat, k ≤ s.size ∧ i = .int .i64 k ∧ Hid (wordN (strL s) = k + wordN ((strL s).drop k))) (fun i => s.size - (intOf i).toNat)
  case atStart => exact ⟨0, by omega, rfl, Lib.hid (by simp)⟩
  case round =>
    obtain ⟨k, hk, rfl, HW⟩ := hrel
    by_cases hlt : k < s.size
    · have hdr := drop_str s k hlt
      have hki : (k : Int) < (s.size : Int) := by omega
      have hk0 : (0 : Int) ≤ (k : Int) := by omega
      have HSM := Lib.hid (fun W : World => refSmall_any (s[k].toNat : Int) W)
      cases hsm : smallC (s[k].toNat : Int) with
      | true =>
        have HR : Hid (wordN (strL s) = (k + 1 : Nat) + wordN ((strL s).drop (k + 1))) := Lib.hid (by rw [HW.out, hdr, wordN_go hsm]; omega)
        rw [hsm] at HSM
        clear hdr hsm HW
        go_wp2_with fail
        refine (HSM.out _).mono ?_
        rintro e w2 ⟨rfl, rfl⟩
        go_wp2_with fail
        go_round
        case rel => exact ⟨k + 1, by omega, by go_num, HR⟩
        case measure => simp [intOf]; omega
      | false =>
        have HR : Hid (wordN (strL s) = k) := Lib.hid (by rw [HW.out, hdr, wordN_stop hsm]; rfl)
        have HU := Lib.hid (HN.out (fun h => by have := HR.out; omega))
        rw [hsm] at HSM
        clear hdr hsm HW
        go_wp2_with fail
        refine (HSM.out _).mono ?_
        rintro e w2 ⟨rfl, rfl⟩
        go_wp2_with fail
        go_ret
        rw [HU.out]
        exact ⟨rfl, HB1.out⟩
    · obtain rfl : k = s.size := by omega
      have HR : Hid (wordN (strL s) = s.size) := Lib.hid (by rw [HW.out, List.drop_eq_nil_of_le (by rw [length_strL]; exact Nat.le_refl _)]; rfl)
      have hi1 : ¬ (s.size : Int) < (s.size : Int) := by omega
      by_cases h32 : s.size ≤ 32
      · have h32' : (s.size : Int) ≤ 32 := by omega
        have HU := Lib.hid (HY.out HR.out h32)
        clear HW h32
        go_wp2_with fail
        go_ret
        rw [HU.out]
        exact ⟨rfl, HB1.out⟩
      · have h32' : ¬ (s.size : Int) ≤ 32 := by omega
        have HU := Lib.hid (HN.out (fun h => h32 h.2))
        clear HW h32
        go_wp2_with fail
        go_ret
        rw [HU.out]
        exact ⟨rfl, HB1.out⟩
set_option maxRecDepth 100000 in
set_option maxHeartbeats 4000000 in
theorem refSpell_sign (n p : Int) (s : ByteArray) (w : World) (hs : s.size ≤ 1000000) :
    Calls Tryz.prog 124 #[tokV 4 s n p] w fun e w' => e = .returned (.string (toS (spellN ⟨4, s, n, p⟩))) ∧ Below w.heap.size w w' := by
  rw [spell_sign]
  by_cases h0 : s.size = 0
  · rw [str_nil h0, show (if isSignB ⟨#[]⟩ = true then (⟨#[]⟩ : ByteArray) else ⟨#[]⟩) = ⟨#[]⟩ from rfl]
    go_enter Tryz.func124, Tryz.ntmps124
    go_wp2_with fail
    go_quiet (fail)
    go_wp2_with fail
    go_ret
    exact ⟨rfl, below_drewN (belowAlloc w _) _⟩
  · have hp : decide ((0 : Int) < (s.size : Int)) = true := decide_eq_true (by omega)
    have hp2 : (0 : Int) < (s.size : Int) := by omega
    have hz : 0 < s.size := by omega
    have HSG := Lib.hid (fun W : World => refSign_any s W (by omega))
    have HY : Hid (isSignB s = decide (signN (strL s) = s.size)) := Lib.hid (by unfold isSignB; rw [decide_eq_decide]; exact ⟨fun h => h.2, fun h => ⟨h0, h⟩⟩)
    obtain ⟨q, hq⟩ : ∃ q, q = signN (strL s) := ⟨_, rfl⟩
    rw [← hq] at HSG HY
    rw [HY.out]
    obtain ⟨W1, hW1⟩ : ∃ W1, W1 = w.alloc (.cells #[.int .i64 4, .string s, .int .i64 n, .int .i64 p] 59) := ⟨_, rfl⟩
    obtain ⟨g, hg⟩ : ∃ g, g = w.heap.size := ⟨_, rfl⟩
    have HB1 : Hid (Below w.heap.size w W1) := Lib.hid (by rw [hW1]; exact belowAlloc _ _)
    have d1 : W1.cell? ⟨g, 1, none⟩ = some (.string s) := by rw [hW1, hg]; simp
    have d0 : W1.cell? ⟨g, 0, none⟩ = some (.int .i64 4) := by rw [hW1, hg]; simp
    have HW1 := hW1.symm
    have HG := hg.symm
    clear h0 hW1 hq hg
    by_cases hqs : q = s.size
    · have e1 : ((q : Int) == (s.size : Int)) = true := by rw [hqs]; exact beq_self_eq_true _
      rw [if_pos (decide_eq_true hqs)]
      clear hqs HY
      go_enter Tryz.func124, Tryz.ntmps124
      go_wp2_with fail
      refine wp_region_held_drew (S := fun X => X.cell? ⟨g, 1, none⟩ = some (.string s)) (by kernel_rfl) d1 (fun hHeld => ?_)
      refine rgT 0 ?_
      try simp only [rgS]
      refine rgT 1 ?_
      try simp only [rgS]
      refine rgT 2 ?_
      try simp only [rgS]
      refine rgT 3 (v := .bool true) ?_
      try simp only [rgS]
      refine rgT 4 (v := .bool true) ?_
      try simp only [rgS]
      refine rgT 5 ?_
      try simp only [rgS]
      refine rgT 6 ?_
      try simp only [rgS]
      refine rgT 8 ?_
      try simp only [rgS]
      refine rgT 9 ?_
      try simp only [rgS]
      refine rgT 10 ?_
      try simp only [rgS]
      refine rgO 7 (fun K hK => ?_)
      go_simp
      (with_reducible refine (HSG.out _).mono ?_)
      rintro e w2 ⟨rfl, hb2⟩
      have HB2 := Lib.hid (HB1.out.trans ((show Below W1.heap.size W1 w2 from (Below.refl _ W1).drew.trans hb2).mono HB1.out.size))
      have z1 : w2.cell? ⟨g, 1, none⟩ = some (.string s) := (hb2.cell (p := ⟨g, 1, none⟩) (lt_of_cell d1)).trans d1
      refine hK.out _ _ z1 (fun hH2 => ?_)
      clear hK K hHeld hb2
      try simp only [rgS]
      refine rgT 11 ?_
      try simp only [rgS]
      refine rgT 12 ?_
      try simp only [rgS]
      refine wpAnyH_done (by kernel_rfl) ?_ _
      go_wp2_with fail
      go_ret
      exact ⟨rfl, HB2.out⟩
    · have e1 : ((q : Int) == (s.size : Int)) = false := by rw [beq_eq_false_iff_ne]; omega
      rw [if_neg (by simpa using hqs)]
      clear hqs HY
      go_enter Tryz.func124, Tryz.ntmps124
      go_wp2_with fail
      refine wp_region_held_drew (S := fun X => X.cell? ⟨g, 1, none⟩ = some (.string s)) (by kernel_rfl) d1 (fun hHeld => ?_)
      refine rgT 0 ?_
      try simp only [rgS]
      refine rgT 1 ?_
      try simp only [rgS]
      refine rgT 2 ?_
      try simp only [rgS]
      refine rgT 3 (v := .bool true) ?_
      try simp only [rgS]
      refine rgT 4 (v := .bool true) ?_
      try simp only [rgS]
      refine rgT 5 ?_
      try simp only [rgS]
      refine rgT 6 ?_
      try simp only [rgS]
      refine rgT 8 ?_
      try simp only [rgS]
      refine rgT 9 ?_
      try simp only [rgS]
      refine rgT 10 ?_
      try simp only [rgS]
      refine rgO 7 (fun K hK => ?_)
      go_simp
      (with_reducible refine (HSG.out _).mono ?_)
      rintro e w2 ⟨rfl, hb2⟩
      have HB2 := Lib.hid (HB1.out.trans ((show Below W1.heap.size W1 w2 from (Below.refl _ W1).drew.trans hb2).mono HB1.out.size))
      have z1 : w2.cell? ⟨g, 1, none⟩ = some (.string s) := (hb2.cell (p := ⟨g, 1, none⟩) (lt_of_cell d1)).trans d1
      refine hK.out _ _ z1 (fun hH2 => ?_)
      clear hK K hHeld hb2
      try simp only [rgS]
      refine rgT 11 ?_
      try simp only [rgS]
      refine rgT 12 ?_
      try simp only [rgS]
      refine wpAnyH_done (by kernel_rfl) ?_ _
      go_wp2_with fail
      go_ret
      exact ⟨rfl, HB2.out⟩
set_option maxRecDepth 100000 in
set_option maxHeartbeats 4000000 in
theorem refSpell_any (k n p : Int) (s : ByteArray) (w : World) (hs : s.size ≤ 1000000) (hn : -9223372036854775808 ≤ n ∧ n ≤ 9223372036854775807) :
    Calls Tryz.prog 124 #[tokV k s n p] w fun e w' => e = .returned (.string (toS (spellN ⟨k, s, n, p⟩))) ∧ Below w.heap.size w w' := by
  by_cases h1 : k = 1
  · subst h1; exact refSpell_word n p s w hs
  by_cases h4 : k = 4
  · subst h4; exact refSpell_sign n p s w hs
  have e1 : (k == 1) = false := by rw [beq_eq_false_iff_ne]; exact h1
  have e4 : (k == 4) = false := by rw [beq_eq_false_iff_ne]; exact h4
  by_cases h2 : k = 2
  · subst h2
    rw [spell_text]
    have HQ := Lib.hid (fun W : World => refQuoteX_any s W hs)
    obtain ⟨U, hU⟩ : ∃ U, U = toS (quoteN (strL s)).1 := ⟨_, rfl⟩
    obtain ⟨u, hu⟩ : ∃ u, u = (quoteN (strL s)).2 := ⟨_, rfl⟩
    rw [← hU, ← hu] at HQ
    rw [← hU]
    clear h1 h4 e1 e4 hU hu
    go_enter Tryz.func124, Tryz.ntmps124
    go_wp2_with fail
    refine (HQ.out _).mono ?_
    rintro e w2 ⟨rfl, hb2⟩
    have HB2 := Lib.hid ((belowAlloc w _).trans (hb2.mono (belowAlloc w _).size))
    clear hb2
    go_wp2_with fail
    go_ret
    exact ⟨rfl, HB2.out⟩
  have e2 : (k == 2) = false := by rw [beq_eq_false_iff_ne]; exact h2
  by_cases h3 : k = 3
  · subst h3
    rw [spell_num]
    have HP := Lib.hid (fun W : World => refPrint_any n W hn.1 hn.2)
    rcases num_cases n with ⟨b1, b2⟩ | b1 | ⟨b1, b2⟩
    · rw [if_pos ⟨b1, b2⟩]
      clear h1 h2 h4 e1 e2 e4
      go_enter Tryz.func124, Tryz.ntmps124
      go_wp2_with fail
      refine (HP.out _).mono ?_
      rintro e w2 ⟨rfl, hb2⟩
      have HB2 := Lib.hid ((belowAlloc w _).trans (hb2.mono (belowAlloc w _).size))
      clear hb2
      go_wp2_with fail
      go_ret
      exact ⟨rfl, HB2.out⟩
    · rw [if_neg (fun h => b1 h.1)]
      clear h1 h2 h4 e1 e2 e4
      go_enter Tryz.func124, Tryz.ntmps124
      go_wp2_with fail
      go_ret
      exact ⟨rfl, belowAlloc w _⟩
    · rw [if_neg (fun h => b2 h.2)]
      clear h1 h2 h4 e1 e2 e4
      go_enter Tryz.func124, Tryz.ntmps124
      go_wp2_with fail
      go_ret
      exact ⟨rfl, belowAlloc w _⟩
  have e3 : (k == 3) = false := by rw [beq_eq_false_iff_ne]; exact h3
  rw [spellT_none s n p h1 h2 h3 h4]
  clear h1 h2 h3 h4
  go_enter Tryz.func124, Tryz.ntmps124
  go_wp2_with fail
  go_ret
  exact ⟨rfl, belowAlloc w _⟩
end Go.Proofs.YtcjfealalokjaaaGreatDoor
namespace Go.Proofs.YtcjfealalokjaaaGreatDoor
open Go Go.RowKit
set_option maxRecDepth 100000 in
set_option maxHeartbeats 2000000 in
theorem refKept_any (s : ByteArray) (W : World) : Calls Tryz.prog 123 #[.string s] W fun e w' => e = .returned (.bool (kept s)) ∧ Below W.heap.size W w' := by
  obtain ⟨w1, hw1⟩ : ∃ V, V = W.alloc (.cells #[.string wPermit, .string wDeny, .string wWhen, .string wAnd, .string wOr, .string wNot, .string wIn, .string wHas, .string wTrue, .string wFalse, .string wClaim] 9) := ⟨_, rfl⟩
  have HB1 : Hid (Below W.heap.size W w1) := Lib.hid (by rw [hw1]; exact belowAlloc W _)
  have HE1 : Hid (Blk w1 W.heap.size 9 (keptW.map Value.string)) := Lib.hid (by rw [hw1]; exact heap_alloc_new W _)
  have HW1 := Lib.hid hw1
  clear hw1
  go_enter Tryz.func123, Tryz.ntmps123
  go_wp2
  rw [← HW1.out]
  go_loopw [4] (fun i wr => ∃ k : Nat, k ≤ 11 ∧ i = .int .i64 (k : Int) ∧ (∀ x (hx : x < keptW.length), x < k → keptW[x] ≠ s) ∧ Below w1.heap.size w1 wr) (fun i _ => 11 - (intOf i).toNat)
  case atStart => exact ⟨0, by omega, rfl, fun x _ hx => absurd hx (Nat.not_lt_zero _), Below.refl _ _⟩
  case round =>
    obtain ⟨k, hk, rfl, hall, hbel⟩ := hrel
    have HA := Lib.hid hall
    have HBE := Lib.hid hbel
    by_cases hlt : k < 11
    · have hkl : k < keptW.length := hlt
      have hc : wr.cell? ⟨W.heap.size, k, none⟩ = some (.string keptW[k]) := ((HE1.out.below hbel HE1.out.lt).cell k).trans (by rw [List.getElem?_map, List.getElem?_eq_getElem hkl]; rfl)
      have HT : Hid (∀ x (hx : x < keptW.length), x < k + 1 → keptW[k] ≠ s → keptW[x] ≠ s) := Lib.hid (fun x hx h1 hn => by
        rcases Nat.lt_or_ge x k with h | h
        · exact HA.out x hx h
        · obtain rfl : x = k := by omega
          exact hn)
      have HK : Hid (keptW[k] = s → kept s = true) := Lib.hid (fun e => List.any_eq_true.2 ⟨keptW[k], List.getElem_mem hkl, decide_eq_true e⟩)
      obtain ⟨t, ht⟩ : ∃ t, t = keptW[k] := ⟨_, rfl⟩
      rw [← ht] at hc HT HK
      have k0 : (0 : Int) ≤ (k : Int) := by omega
      have k1 : (k : Int) < 11 := by omega
      clear hall hbel ht hkl
      by_cases he : t = s
      · have b1 := strs_beq he
        have HR := Lib.hid (HK.out he)
        clear he
        go_wp2
        go_ret
        rw [HR.out]
        exact ⟨rfl, HB1.out.trans (HBE.out.mono HB1.out.size)⟩
      · have b1 := strs_bne he
        have HN := Lib.hid (fun x hx h1 => HT.out x hx h1 he)
        clear he
        go_wp2
        go_roundw
        case rel => exact ⟨k + 1, by omega, by go_num, HN.out, HBE.out⟩
        case measure => simp [intOf]; omega
    · obtain rfl : k = 11 := by omega
      have HR : Hid (kept s = false) := Lib.hid (by
        rw [← Bool.not_eq_true]
        intro h
        obtain ⟨w, hw, he⟩ := List.any_eq_true.1 h
        obtain ⟨j, hj, rfl⟩ := List.getElem_of_mem hw
        exact HA.out j hj hj (of_decide_eq_true he))
      clear hall hbel
      go_wp2
      go_ret
      rw [HR.out]
      exact ⟨rfl, HB1.out.trans (HBE.out.mono HB1.out.size)⟩
set_option maxRecDepth 100000 in
set_option maxHeartbeats 1000000 in
theorem refQuotedP_any (s : ByteArray) (W : World) (hs : s.size ≤ 1000000) : Calls Tryz.prog 36 #[.string s] W fun e w' => e = .returned (.bool (quoteN (strL s)).2) ∧ Below W.heap.size W w' := by
  have HC := Lib.hid (refQuoteX_any s W hs)
  obtain ⟨X, hX⟩ : ∃ X, X = toS (quoteN (strL s)).1 := ⟨_, rfl⟩
  obtain ⟨Y, hY⟩ : ∃ Y, Y = (quoteN (strL s)).2 := ⟨_, rfl⟩
  rw [← hX, ← hY] at HC
  rw [← hY]
  clear hX hY
  go_enter Tryz.func36, Tryz.ntmps36
  go_wp2_with fail
  (with_reducible refine HC.out.mono ?_)
  rintro e w2 ⟨rfl, hb⟩
  have HB2 := Lib.hid hb
  clear hb
  go_wp2
  go_ret
  exact ⟨rfl, HB2.out⟩
/-- What leaf tells. -/
def LeafTells (op : Int) (s : ByteArray) (n : Int) (A : Option Addr) (m c : Nat) (p : Int) (W : World) (b : Bool) : Prop := Calls Tryz.prog 69 #[.agg #[.int .i64 op, .string s, .int .i64 n, .slice A m c, .int .i64 p]] W fun e w' => e = .returned (.bool b) ∧ Below W.heap.size W w'
set_option maxRecDepth 100000 in
set_option maxHeartbeats 4000000 in
theorem leaf1 {n p : Int} {s : ByteArray} {A : Option Addr} {m c : Nat} {W : World} (hs : s.size ≤ 1000000) : LeafTells 1 s n A m c p W (leafG 1 s n) := by
  unfold LeafTells
  rw [show leafG 1 s n = (decide (s = E0) && decide (n = 0 ∨ n = 1)) from by unfold leafG; rw [if_pos rfl]]
  by_cases hs0 : s = E0
  · subst hs0
    by_cases n0 : n = 0
    · subst n0
      rw [show (decide (E0 = E0) && decide ((0 : Int) = 0 ∨ (0 : Int) = 1)) = true from rfl]
      obtain ⟨w1, hw1⟩ : ∃ V, V = W.alloc (.cells #[.int .i64 1, .string E0, .int .i64 0, .slice A m c, .int .i64 p] 42) := ⟨_, rfl⟩
      have HB1 : Hid (Below W.heap.size W w1) := Lib.hid (by rw [hw1]; exact belowAlloc W _)
      have HE1 : Hid (Blk w1 W.heap.size 42 [.int .i64 1, .string E0, .int .i64 0, .slice A m c, .int .i64 p]) := Lib.hid (by rw [hw1]; exact heap_alloc_new W _)
      have HW1 := Lib.hid hw1
      obtain ⟨c0, c1, c2, c3, c4⟩ := cells5 HE1.out
      rw [hw1] at c0 c1 c2 c3 c4
      clear hw1
      go_enter Tryz.func69, Tryz.ntmps69
      go_wp2
      go_ret
      rw [← HW1.out]
      exact ⟨rfl, HB1.out⟩
    · by_cases n1 : n = 1
      · subst n1
        rw [show (decide (E0 = E0) && decide ((1 : Int) = 0 ∨ (1 : Int) = 1)) = true from rfl]
        obtain ⟨w1, hw1⟩ : ∃ V, V = W.alloc (.cells #[.int .i64 1, .string E0, .int .i64 1, .slice A m c, .int .i64 p] 42) := ⟨_, rfl⟩
        have HB1 : Hid (Below W.heap.size W w1) := Lib.hid (by rw [hw1]; exact belowAlloc W _)
        have HE1 : Hid (Blk w1 W.heap.size 42 [.int .i64 1, .string E0, .int .i64 1, .slice A m c, .int .i64 p]) := Lib.hid (by rw [hw1]; exact heap_alloc_new W _)
        have HW1 := Lib.hid hw1
        obtain ⟨c0, c1, c2, c3, c4⟩ := cells5 HE1.out
        rw [hw1] at c0 c1 c2 c3 c4
        clear hw1
        go_enter Tryz.func69, Tryz.ntmps69
        go_wp2
        go_ret
        rw [← HW1.out]
        exact ⟨rfl, HB1.out⟩
      · rw [decide_eq_false (show ¬ (n = 0 ∨ n = 1) by omega), Bool.and_false]
        have b0 : (n == 0) = false := by rw [beq_eq_false_iff_ne]; exact n0
        have b1 : (n == 1) = false := by rw [beq_eq_false_iff_ne]; exact n1
        obtain ⟨w1, hw1⟩ : ∃ V, V = W.alloc (.cells #[.int .i64 1, .string E0, .int .i64 n, .slice A m c, .int .i64 p] 42) := ⟨_, rfl⟩
        have HB1 : Hid (Below W.heap.size W w1) := Lib.hid (by rw [hw1]; exact belowAlloc W _)
        have HE1 : Hid (Blk w1 W.heap.size 42 [.int .i64 1, .string E0, .int .i64 n, .slice A m c, .int .i64 p]) := Lib.hid (by rw [hw1]; exact heap_alloc_new W _)
        have HW1 := Lib.hid hw1
        obtain ⟨c0, c1, c2, c3, c4⟩ := cells5 HE1.out
        rw [hw1] at c0 c1 c2 c3 c4
        clear hw1
        go_enter Tryz.func69, Tryz.ntmps69
        go_wp2
        go_ret
        rw [← HW1.out]
        exact ⟨rfl, HB1.out⟩
  · rw [decide_eq_false hs0, Bool.false_and]
    have b1 : (s.toList == []) = false := neLit hs0
    have b2 : s.toList.isEmpty = false := by rw [show s.toList.isEmpty = (s.toList == []) from by cases s.toList <;> rfl]; exact b1
    obtain ⟨w1, hw1⟩ : ∃ V, V = W.alloc (.cells #[.int .i64 1, .string s, .int .i64 n, .slice A m c, .int .i64 p] 42) := ⟨_, rfl⟩
    have HB1 : Hid (Below W.heap.size W w1) := Lib.hid (by rw [hw1]; exact belowAlloc W _)
    have HE1 : Hid (Blk w1 W.heap.size 42 [.int .i64 1, .string s, .int .i64 n, .slice A m c, .int .i64 p]) := Lib.hid (by rw [hw1]; exact heap_alloc_new W _)
    have HW1 := Lib.hid hw1
    obtain ⟨c0, c1, c2, c3, c4⟩ := cells5 HE1.out
    rw [hw1] at c0 c1 c2 c3 c4
    clear hw1
    go_enter Tryz.func69, Tryz.ntmps69
    go_wp2
    go_ret
    rw [← HW1.out]
    exact ⟨rfl, HB1.out⟩
set_option maxRecDepth 100000 in
set_option maxHeartbeats 4000000 in
theorem leaf2 {n p : Int} {s : ByteArray} {A : Option Addr} {m c : Nat} {W : World} (hs : s.size ≤ 1000000) : LeafTells 2 s n A m c p W (leafG 2 s n) := by
  unfold LeafTells
  rw [show leafG 2 s n = (decide (s = E0) && decide (-9007199254740991 ≤ n ∧ n ≤ 9007199254740991)) from by unfold leafG; rw [if_neg (by decide), if_pos rfl]]
  by_cases hs0 : s = E0
  · subst hs0
    rw [decide_eq_true (rfl : E0 = E0), Bool.true_and]
    by_cases n0 : -9007199254740991 ≤ n
    · by_cases n1 : n ≤ 9007199254740991
      · rw [decide_eq_true ⟨n0, n1⟩]
        obtain ⟨w1, hw1⟩ : ∃ V, V = W.alloc (.cells #[.int .i64 2, .string E0, .int .i64 n, .slice A m c, .int .i64 p] 42) := ⟨_, rfl⟩
        have HB1 : Hid (Below W.heap.size W w1) := Lib.hid (by rw [hw1]; exact belowAlloc W _)
        have HE1 : Hid (Blk w1 W.heap.size 42 [.int .i64 2, .string E0, .int .i64 n, .slice A m c, .int .i64 p]) := Lib.hid (by rw [hw1]; exact heap_alloc_new W _)
        have HW1 := Lib.hid hw1
        obtain ⟨c0, c1, c2, c3, c4⟩ := cells5 HE1.out
        rw [hw1] at c0 c1 c2 c3 c4
        clear hw1
        go_enter Tryz.func69, Tryz.ntmps69
        go_wp2
        go_ret
        rw [← HW1.out]
        exact ⟨rfl, HB1.out⟩
      · rw [decide_eq_false (fun h => n1 h.2)]
        obtain ⟨w1, hw1⟩ : ∃ V, V = W.alloc (.cells #[.int .i64 2, .string E0, .int .i64 n, .slice A m c, .int .i64 p] 42) := ⟨_, rfl⟩
        have HB1 : Hid (Below W.heap.size W w1) := Lib.hid (by rw [hw1]; exact belowAlloc W _)
        have HE1 : Hid (Blk w1 W.heap.size 42 [.int .i64 2, .string E0, .int .i64 n, .slice A m c, .int .i64 p]) := Lib.hid (by rw [hw1]; exact heap_alloc_new W _)
        have HW1 := Lib.hid hw1
        obtain ⟨c0, c1, c2, c3, c4⟩ := cells5 HE1.out
        rw [hw1] at c0 c1 c2 c3 c4
        clear hw1
        go_enter Tryz.func69, Tryz.ntmps69
        go_wp2
        go_ret
        rw [← HW1.out]
        exact ⟨rfl, HB1.out⟩
    · rw [decide_eq_false (fun h => n0 h.1)]
      obtain ⟨w1, hw1⟩ : ∃ V, V = W.alloc (.cells #[.int .i64 2, .string E0, .int .i64 n, .slice A m c, .int .i64 p] 42) := ⟨_, rfl⟩
      have HB1 : Hid (Below W.heap.size W w1) := Lib.hid (by rw [hw1]; exact belowAlloc W _)
      have HE1 : Hid (Blk w1 W.heap.size 42 [.int .i64 2, .string E0, .int .i64 n, .slice A m c, .int .i64 p]) := Lib.hid (by rw [hw1]; exact heap_alloc_new W _)
      have HW1 := Lib.hid hw1
      obtain ⟨c0, c1, c2, c3, c4⟩ := cells5 HE1.out
      rw [hw1] at c0 c1 c2 c3 c4
      clear hw1
      go_enter Tryz.func69, Tryz.ntmps69
      go_wp2
      go_ret
      rw [← HW1.out]
      exact ⟨rfl, HB1.out⟩
  · rw [decide_eq_false hs0, Bool.false_and]
    have b1 : (s.toList == []) = false := neLit hs0
    have b2 : s.toList.isEmpty = false := by rw [show s.toList.isEmpty = (s.toList == []) from by cases s.toList <;> rfl]; exact b1
    obtain ⟨w1, hw1⟩ : ∃ V, V = W.alloc (.cells #[.int .i64 2, .string s, .int .i64 n, .slice A m c, .int .i64 p] 42) := ⟨_, rfl⟩
    have HB1 : Hid (Below W.heap.size W w1) := Lib.hid (by rw [hw1]; exact belowAlloc W _)
    have HE1 : Hid (Blk w1 W.heap.size 42 [.int .i64 2, .string s, .int .i64 n, .slice A m c, .int .i64 p]) := Lib.hid (by rw [hw1]; exact heap_alloc_new W _)
    have HW1 := Lib.hid hw1
    obtain ⟨c0, c1, c2, c3, c4⟩ := cells5 HE1.out
    rw [hw1] at c0 c1 c2 c3 c4
    clear hw1
    go_enter Tryz.func69, Tryz.ntmps69
    go_wp2
    go_ret
    rw [← HW1.out]
    exact ⟨rfl, HB1.out⟩
set_option maxRecDepth 100000 in
set_option maxHeartbeats 4000000 in
theorem leaf3 {n p : Int} {s : ByteArray} {A : Option Addr} {m c : Nat} {W : World} (hs : s.size ≤ 1000000) : LeafTells 3 s n A m c p W (leafG 3 s n) := by
  unfold LeafTells
  rw [show leafG 3 s n = (decide (n = 0) && (quoteN (strL s)).2) from by unfold leafG; rw [if_neg (by decide), if_neg (by decide), if_pos (by decide)]]
  by_cases n0 : n = 0
  · subst n0
    rw [decide_eq_true (rfl : (0 : Int) = 0), Bool.true_and]
    obtain ⟨w1, hw1⟩ : ∃ V, V = W.alloc (.cells #[.int .i64 3, .string s, .int .i64 0, .slice A m c, .int .i64 p] 42) := ⟨_, rfl⟩
    have HB1 : Hid (Below W.heap.size W w1) := Lib.hid (by rw [hw1]; exact belowAlloc W _)
    have HE1 : Hid (Blk w1 W.heap.size 42 [.int .i64 3, .string s, .int .i64 0, .slice A m c, .int .i64 p]) := Lib.hid (by rw [hw1]; exact heap_alloc_new W _)
    have HW1 := Lib.hid hw1
    obtain ⟨c0, c1, c2, c3, c4⟩ := cells5 HE1.out
    rw [hw1] at c0 c1 c2 c3 c4
    clear hw1
    have HQ := Lib.hid (refQuotedP_any s w1 hs)
    obtain ⟨X, hX⟩ : ∃ X, X = (quoteN (strL s)).2 := ⟨_, rfl⟩
    rw [← hX] at HQ ⊢
    clear hX
    go_enter Tryz.func69, Tryz.ntmps69
    go_wp2_with fail
    rw [← HW1.out]
    (with_reducible refine HQ.out.mono ?_)
    rintro e w2 ⟨rfl, hb⟩
    have HB2 := Lib.hid (HB1.out.trans (hb.mono HB1.out.size))
    clear hb c0 c1 c2 c3 c4
    go_wp2
    go_ret
    exact ⟨rfl, HB2.out⟩
  · rw [decide_eq_false n0, Bool.false_and]
    have b0 : (n == 0) = false := by rw [beq_eq_false_iff_ne]; exact n0
    obtain ⟨w1, hw1⟩ : ∃ V, V = W.alloc (.cells #[.int .i64 3, .string s, .int .i64 n, .slice A m c, .int .i64 p] 42) := ⟨_, rfl⟩
    have HB1 : Hid (Below W.heap.size W w1) := Lib.hid (by rw [hw1]; exact belowAlloc W _)
    have HE1 : Hid (Blk w1 W.heap.size 42 [.int .i64 3, .string s, .int .i64 n, .slice A m c, .int .i64 p]) := Lib.hid (by rw [hw1]; exact heap_alloc_new W _)
    have HW1 := Lib.hid hw1
    obtain ⟨c0, c1, c2, c3, c4⟩ := cells5 HE1.out
    rw [hw1] at c0 c1 c2 c3 c4
    clear hw1
    go_enter Tryz.func69, Tryz.ntmps69
    go_wp2
    go_ret
    rw [← HW1.out]
    exact ⟨rfl, HB1.out⟩
set_option maxRecDepth 100000 in
set_option maxHeartbeats 4000000 in
theorem leaf5 {n p : Int} {s : ByteArray} {A : Option Addr} {m c : Nat} {W : World} (hs : s.size ≤ 1000000) : LeafTells 5 s n A m c p W (leafG 5 s n) := by
  unfold LeafTells
  rw [show leafG 5 s n = (decide (n = 0) && (quoteN (strL s)).2) from by unfold leafG; rw [if_neg (by decide), if_neg (by decide), if_pos (by decide)]]
  by_cases n0 : n = 0
  · subst n0
    rw [decide_eq_true (rfl : (0 : Int) = 0), Bool.true_and]
    obtain ⟨w1, hw1⟩ : ∃ V, V = W.alloc (.cells #[.int .i64 5, .string s, .int .i64 0, .slice A m c, .int .i64 p] 42) := ⟨_, rfl⟩
    have HB1 : Hid (Below W.heap.size W w1) := Lib.hid (by rw [hw1]; exact belowAlloc W _)
    have HE1 : Hid (Blk w1 W.heap.size 42 [.int .i64 5, .string s, .int .i64 0, .slice A m c, .int .i64 p]) := Lib.hid (by rw [hw1]; exact heap_alloc_new W _)
    have HW1 := Lib.hid hw1
    obtain ⟨c0, c1, c2, c3, c4⟩ := cells5 HE1.out
    rw [hw1] at c0 c1 c2 c3 c4
    clear hw1
    have HQ := Lib.hid (refQuotedP_any s w1 hs)
    obtain ⟨X, hX⟩ : ∃ X, X = (quoteN (strL s)).2 := ⟨_, rfl⟩
    rw [← hX] at HQ ⊢
    clear hX
    go_enter Tryz.func69, Tryz.ntmps69
    go_wp2_with fail
    rw [← HW1.out]
    (with_reducible refine HQ.out.mono ?_)
    rintro e w2 ⟨rfl, hb⟩
    have HB2 := Lib.hid (HB1.out.trans (hb.mono HB1.out.size))
    clear hb c0 c1 c2 c3 c4
    go_wp2
    go_ret
    exact ⟨rfl, HB2.out⟩
  · rw [decide_eq_false n0, Bool.false_and]
    have b0 : (n == 0) = false := by rw [beq_eq_false_iff_ne]; exact n0
    obtain ⟨w1, hw1⟩ : ∃ V, V = W.alloc (.cells #[.int .i64 5, .string s, .int .i64 n, .slice A m c, .int .i64 p] 42) := ⟨_, rfl⟩
    have HB1 : Hid (Below W.heap.size W w1) := Lib.hid (by rw [hw1]; exact belowAlloc W _)
    have HE1 : Hid (Blk w1 W.heap.size 42 [.int .i64 5, .string s, .int .i64 n, .slice A m c, .int .i64 p]) := Lib.hid (by rw [hw1]; exact heap_alloc_new W _)
    have HW1 := Lib.hid hw1
    obtain ⟨c0, c1, c2, c3, c4⟩ := cells5 HE1.out
    rw [hw1] at c0 c1 c2 c3 c4
    clear hw1
    go_enter Tryz.func69, Tryz.ntmps69
    go_wp2
    go_ret
    rw [← HW1.out]
    exact ⟨rfl, HB1.out⟩
set_option maxRecDepth 100000 in
set_option maxHeartbeats 4000000 in
theorem leaf4 {n p : Int} {s : ByteArray} {A : Option Addr} {m c : Nat} {W : World} (hs : s.size ≤ 1000000) : LeafTells 4 s n A m c p W (leafG 4 s n) := by
  unfold LeafTells
  rw [show leafG 4 s n = (decide (n = 0) && !kept s && decide (0 < s.size) && decide (spellN (wordT s) = strL s)) from by unfold leafG; rw [if_neg (by decide), if_neg (by decide), if_neg (by decide)]]
  by_cases n0 : n = 0
  · subst n0
    rw [decide_eq_true (rfl : (0 : Int) = 0), Bool.true_and]
    obtain ⟨w1, hw1⟩ : ∃ V, V = W.alloc (.cells #[.int .i64 4, .string s, .int .i64 0, .slice A m c, .int .i64 p] 42) := ⟨_, rfl⟩
    have HB1 : Hid (Below W.heap.size W w1) := Lib.hid (by rw [hw1]; exact belowAlloc W _)
    have HE1 : Hid (Blk w1 W.heap.size 42 [.int .i64 4, .string s, .int .i64 0, .slice A m c, .int .i64 p]) := Lib.hid (by rw [hw1]; exact heap_alloc_new W _)
    have HW1 := Lib.hid hw1
    obtain ⟨c0, c1, c2, c3, c4⟩ := cells5 HE1.out
    rw [hw1] at c0 c1 c2 c3 c4
    clear hw1
    have HKE := Lib.hid (fun w => refKept_any s w)
    have HSP := Lib.hid (fun w => refSpell_any 1 0 0 s w hs (by decide))
    unfold tokV at HSP
    obtain ⟨Y, hY⟩ : ∃ Y, Y = toS (spellN ⟨1, s, 0, 0⟩) := ⟨_, rfl⟩
    have HYS : Hid (decide (spellN (wordT s) = strL s) = (Y.toList == s.toList)) := Lib.hid (by
      rw [eq_toList]
      by_cases h : spellN (wordT s) = strL s
      · rw [decide_eq_true h, decide_eq_true]
        rw [hY]
        exact strL_inj (by rw [strL_toS (spellN_bytes _)]; exact h)
      · rw [decide_eq_false h, decide_eq_false]
        intro e
        apply h
        have e2 : strL Y = strL s := by rw [e]
        rw [hY, strL_toS (spellN_bytes _)] at e2
        exact e2)
    rw [← hY] at HSP
    rw [HYS.out]
    obtain ⟨z, hz⟩ : ∃ z, z = (Y.toList == s.toList) := ⟨_, rfl⟩
    have HZ := Lib.hid hz.symm
    rw [← hz]
    obtain ⟨kb, hkb⟩ : ∃ k, k = kept s := ⟨_, rfl⟩
    rw [← hkb] at HKE ⊢
    obtain ⟨zb, hzb⟩ : ∃ z, z = decide (0 < s.size) := ⟨_, rfl⟩
    rw [← hzb]
    clear hY hz hkb HYS c0 c1 c2 c3 c4
    have HSX : Hid (∀ X, Below w1.heap.size w1 X → Blk X W.heap.size 42 [.int .i64 4, .string s, .int .i64 0, .slice A m c, .int .i64 p]) := Lib.hid fun X hX => HE1.out.below hX HE1.out.lt
    go_enter Tryz.func69, Tryz.ntmps69
    go_wp2_with fail
    rw [← HW1.out]
    refine wp_region_held_drew (S := fun X => X.cell? ⟨W.heap.size, 0, none⟩ = some (.int .i64 4) ∧ X.cell? ⟨W.heap.size, 1, none⟩ = some (.string s) ∧ X.cell? ⟨W.heap.size, 2, none⟩ = some (.int .i64 0) ∧ X.cell? ⟨W.heap.size, 3, none⟩ = some (.slice A m c) ∧ X.cell? ⟨W.heap.size, 4, none⟩ = some (.int .i64 p)) (by kernel_rfl) (cells5 HE1.out.drew) (fun hHeld => ?_)
    refine rgT 0 ?_
    try simp only [rgS]
    refine rgT 1 ?_
    try simp only [rgS]
    refine rgT 2 ?_
    try simp only [rgS]
    refine rgT 3 ?_
    try simp only [rgS]
    refine rgT 4 ?_
    try simp only [rgS]
    refine rgT 5 ?_
    try simp only [rgS]
    refine rgO 6 (fun K hK => ?_)
    go_simp
    (with_reducible refine (HKE.out _).mono ?_)
    rintro e w3 ⟨rfl, hb3⟩
    have HB3 := Lib.hid (show Below w1.heap.size w1 w3 from (Below.refl _ w1).drew.trans hb3)
    have HBF := Lib.hid (HB1.out.trans (HB3.out.mono HB1.out.size))
    refine hK.out _ _ (cells5 (HSX.out _ HB3.out)) (fun hH3 => ?_)
    clear hK K hHeld hb3
    try simp only [rgS]
    cases kb with
    | true =>
      refine rgT 7 ?_
      try simp only [rgS]
      refine rgT 8 ?_
      try simp only [rgS]
      refine rgT 9 ?_
      try simp only [rgS]
      refine rgU 10 ?_
      try simp only [rgS]
      refine rgU 11 ?_
      try simp only [rgS]
      refine rgU 12 ?_
      try simp only [rgS]
      refine rgU 13 ?_
      try simp only [rgS]
      refine rgT 14 ?_
      try simp only [rgS]
      refine rgT 15 ?_
      try simp only [rgS]
      refine rgU 16 ?_
      try simp only [rgS]
      refine rgU 17 ?_
      try simp only [rgS]
      refine rgU 18 ?_
      try simp only [rgS]
      refine rgU 19 ?_
      try simp only [rgS]
      refine rgU 20 ?_
      try simp only [rgS]
      refine rgU 21 ?_
      try simp only [rgS]
      refine rgU 22 ?_
      try simp only [rgS]
      refine rgT 23 ?_
      try simp only [rgS]
      refine rgT 24 ?_
      try simp only [rgS]
      refine wpAnyH_done (by kernel_rfl) ?_ _
      clear hH3
      go_wp2
      go_ret
      exact ⟨rfl, HBF.out⟩
    | false =>
      refine rgT 7 ?_
      try simp only [rgS]
      refine rgT 8 ?_
      try simp only [rgS]
      refine rgT 9 ?_
      try simp only [rgS]
      refine rgT 10 ?_
      try simp only [rgS]
      refine rgT 11 ?_
      try simp only [rgS]
      refine rgT 12 ?_
      try simp only [rgS]
      by_cases h0 : 0 < s.size
      · have i0 : (0 : Int) < (s.size : Int) := by omega
        rw [decide_eq_true h0] at hzb
        subst hzb
        refine rgT 13 ?_
        try simp only [rgS]
        refine rgT 14 ?_
        try simp only [rgS]
        refine rgT 15 ?_
        try simp only [rgS]
        refine rgT 16 ?_
        try simp only [rgS]
        refine rgT 17 ?_
        try simp only [rgS]
        refine rgT 18 ?_
        try simp only [rgS]
        refine rgT 20 ?_
        try simp only [rgS]
        refine rgT 21 ?_
        try simp only [rgS]
        refine rgO 19 (fun K hK => ?_)
        go_simp
        (with_reducible refine (HSP.out _).mono ?_)
        rintro e w4 ⟨rfl, hb4⟩
        have HB4 := Lib.hid (HB3.out.trans (hb4.mono HB3.out.size))
        have HBF4 := Lib.hid (HB1.out.trans (HB4.out.mono HB1.out.size))
        refine hK.out _ _ (cells5 (HSX.out _ HB4.out)) (fun hH4 => ?_)
        clear hK K hH3 hb4
        try simp only [rgS]
        refine rgT 22 ?_
        try simp only [rgS, HZ.out]
        refine rgT 23 ?_
        try simp only [rgS]
        refine rgT 24 ?_
        try simp only [rgS]
        refine wpAnyH_done (by kernel_rfl) ?_ _
        clear hH4
        go_wp2
        go_ret
        exact ⟨rfl, HBF4.out⟩
      · have i0 : ¬ (0 : Int) < (s.size : Int) := by omega
        rw [decide_eq_false h0] at hzb
        subst hzb
        refine rgT 13 ?_
        try simp only [rgS]
        refine rgT 14 ?_
        try simp only [rgS]
        refine rgT 15 ?_
        try simp only [rgS]
        refine rgU 16 ?_
        try simp only [rgS]
        refine rgU 17 ?_
        try simp only [rgS]
        refine rgU 18 ?_
        try simp only [rgS]
        refine rgU 19 ?_
        try simp only [rgS]
        refine rgU 20 ?_
        try simp only [rgS]
        refine rgU 21 ?_
        try simp only [rgS]
        refine rgU 22 ?_
        try simp only [rgS]
        refine rgT 23 ?_
        try simp only [rgS]
        refine rgT 24 ?_
        try simp only [rgS]
        refine wpAnyH_done (by kernel_rfl) ?_ _
        clear hH3
        go_wp2
        go_ret
        exact ⟨rfl, HBF.out⟩
  · rw [decide_eq_false n0, Bool.false_and, Bool.false_and, Bool.false_and]
    have b0 : (n == 0) = false := by rw [beq_eq_false_iff_ne]; exact n0
    obtain ⟨w1, hw1⟩ : ∃ V, V = W.alloc (.cells #[.int .i64 4, .string s, .int .i64 n, .slice A m c, .int .i64 p] 42) := ⟨_, rfl⟩
    have HB1 : Hid (Below W.heap.size W w1) := Lib.hid (by rw [hw1]; exact belowAlloc W _)
    have HE1 : Hid (Blk w1 W.heap.size 42 [.int .i64 4, .string s, .int .i64 n, .slice A m c, .int .i64 p]) := Lib.hid (by rw [hw1]; exact heap_alloc_new W _)
    have HW1 := Lib.hid hw1
    obtain ⟨c0, c1, c2, c3, c4⟩ := cells5 HE1.out
    rw [hw1] at c0 c1 c2 c3 c4
    clear hw1
    have HBF : Hid (Below W.heap.size W w1.drew) := Lib.hid HB1.out.drew
    clear c0 c1 c2 c3 c4
    go_enter Tryz.func69, Tryz.ntmps69
    go_wp2_with fail
    rw [← HW1.out]
    refine wp_region_held_drew (S := fun X => X.cell? ⟨W.heap.size, 0, none⟩ = some (.int .i64 4) ∧ X.cell? ⟨W.heap.size, 1, none⟩ = some (.string s) ∧ X.cell? ⟨W.heap.size, 2, none⟩ = some (.int .i64 n) ∧ X.cell? ⟨W.heap.size, 3, none⟩ = some (.slice A m c) ∧ X.cell? ⟨W.heap.size, 4, none⟩ = some (.int .i64 p)) (by kernel_rfl) (cells5 HE1.out.drew) (fun hHeld => ?_)
    refine rgT 0 ?_
    try simp only [rgS]
    refine rgT 1 ?_
    try simp only [rgS]
    refine rgT 2 ?_
    try simp only [rgS, b0]
    refine rgT 3 ?_
    try simp only [rgS]
    refine rgU 4 ?_
    try simp only [rgS]
    refine rgU 5 ?_
    try simp only [rgS]
    refine rgU 6 ?_
    try simp only [rgS]
    refine rgU 7 ?_
    try simp only [rgS]
    refine rgT 8 ?_
    try simp only [rgS]
    refine rgT 9 ?_
    try simp only [rgS]
    refine rgU 10 ?_
    try simp only [rgS]
    refine rgU 11 ?_
    try simp only [rgS]
    refine rgU 12 ?_
    try simp only [rgS]
    refine rgU 13 ?_
    try simp only [rgS]
    refine rgT 14 ?_
    try simp only [rgS]
    refine rgT 15 ?_
    try simp only [rgS]
    refine rgU 16 ?_
    try simp only [rgS]
    refine rgU 17 ?_
    try simp only [rgS]
    refine rgU 18 ?_
    try simp only [rgS]
    refine rgU 19 ?_
    try simp only [rgS]
    refine rgU 20 ?_
    try simp only [rgS]
    refine rgU 21 ?_
    try simp only [rgS]
    refine rgU 22 ?_
    try simp only [rgS]
    refine rgT 23 ?_
    try simp only [rgS]
    refine rgT 24 ?_
    try simp only [rgS]
    refine wpAnyH_done (by kernel_rfl) ?_ _
    clear hHeld
    go_wp2
    go_ret
    exact ⟨rfl, HBF.out⟩
theorem leaf_any {op n p : Int} {s : ByteArray} {A : Option Addr} {m c : Nat} {W : World} (h1 : 1 ≤ op) (h5 : op ≤ 5) (hs : s.size ≤ 1000000) : LeafTells op s n A m c p W (leafG op s n) := by
  have : op = 1 ∨ op = 2 ∨ op = 3 ∨ op = 4 ∨ op = 5 := by omega
  rcases this with rfl | rfl | rfl | rfl | rfl
  · exact leaf1 hs
  · exact leaf2 hs
  · exact leaf3 hs
  · exact leaf4 hs
  · exact leaf5 hs
end Go.Proofs.YtcjfealalokjaaaGreatDoor
namespace Go.Proofs.YtcjfealalokjaaaGreatDoor
open Go Go.RowKit
theorem RepEs.atX {W : World} {S : Nat → Prop} {b o : Nat} {l : List Ex} (h : RepEs W S b o l) (i : Nat) (hi : i < l.length) : ∃ x v, l[i]? = some x ∧ RepE W S x v ∧ FiveE W b (o + i * 5) v := by
  obtain ⟨v, h1, h2⟩ := h.at i hi
  exact ⟨l[i], v, List.getElem?_eq_getElem hi, h1, h2⟩
/-- What is asked of good, f levels left. -/
def RGAsk (f : Nat) : Prop := ∀ (e : Ex), Short e → ∀ (B : Nat) (W : World) (v : Value), B ≤ W.heap.size → RepE W (fun k => k < B) e v →
  Calls Tryz.prog 37 #[v, .int .i64 (201 - (f : Int))] W fun e' w' => e' = .returned (.bool (goodF f e)) ∧ Below W.heap.size W w'
set_option maxRecDepth 100000 in
set_option maxHeartbeats 1000000 in
theorem rgood_zero : RGAsk 0 := by
  intro e he B W v hB hv
  obtain ⟨x0, x1, x2, Y, xn, xc, x4, rfl⟩ := hv.form
  rw [show goodF 0 e = false from by cases e; rfl]
  show Calls Tryz.prog 37 #[_, .int .i64 201] W _
  have HB := Lib.hid (belowAlloc W (.cells #[.int .i64 x0, .string x1, .int .i64 x2, .slice Y xn xc, .int .i64 x4] 42))
  clear he hv hB
  go_enter Tryz.func37, Tryz.ntmps37
  go_wp2
  go_ret
  exact ⟨rfl, HB.out⟩
set_option maxRecDepth 100000 in
set_option maxHeartbeats 8000000 in
theorem rgood_succ {f : Nat} (hf : f + 1 ≤ 200) (ih : RGAsk f) : RGAsk (f + 1) := by
  intro e he B W v hB hv
  obtain ⟨op, s, n, l, p⟩ := e
  obtain ⟨A, c, rfl, hsz, hlc, hc⟩ := hv.open
  obtain ⟨hs, hps⟩ := he.parts
  have hs : s.size ≤ 3000 := hs
  show Calls Tryz.prog 37 #[.agg #[.int .i64 op, .string s, .int .i64 n, .slice A l.length c, .int .i64 p], _] W _
  have hc : l ≠ [] → ∃ b o, A = some ⟨b, o, none⟩ ∧ b < B ∧ b < W.heap.size ∧ RepEs W (fun k => k < B) b o l := hc
  have hlc : l.length ≤ c ∧ c ≤ 9223372036854775807 := hlc
  have hps : ∀ x ∈ l, Short x := hps
  obtain ⟨dp, hdp⟩ : ∃ x : Int, x = 201 - ((f + 1 : Nat) : Int) := ⟨_, rfl⟩
  rw [← hdp]
  have hdp1 : (201 - (f : Int)) = dp + 1 := by rw [hdp]; omega
  have d0 : ¬ (200 : Int) < dp := by rw [hdp]; omega
  have d1 : 0 ≤ dp := by rw [hdp]; omega
  have d2 : dp ≤ 200 := by omega
  have HIH := Lib.hid ih
  unfold RGAsk at HIH
  rw [hdp1] at HIH
  have HC := Lib.hid hc
  have HS := Lib.hid hps
  have HBW := Lib.hid hB
  obtain ⟨R, hR⟩ : ∃ R, R = goodF (f + 1) (.mk op s n l p) := ⟨_, rfl⟩
  rw [← hR]
  rw [goodF] at hR
  obtain ⟨m, hm⟩ : ∃ m, m = l.length := ⟨_, rfl⟩
  have HN := Lib.hid hm
  rw [← hm] at hlc hR ⊢
  have hm9 : m ≤ 9223372036854775807 := Nat.le_trans hlc.1 hlc.2
  have HR0 := Lib.hid hR
  obtain ⟨w1, hw1⟩ : ∃ V, V = W.alloc (.cells #[.int .i64 op, .string s, .int .i64 n, .slice A m c, .int .i64 p] 42) := ⟨_, rfl⟩
  have HB1 : Hid (Below W.heap.size W w1) := Lib.hid (by rw [hw1]; exact belowAlloc W _)
  have HE1 : Hid (Blk w1 W.heap.size 42 [.int .i64 op, .string s, .int .i64 n, .slice A m c, .int .i64 p]) := Lib.hid (by rw [hw1]; exact heap_alloc_new W _)
  have HW1 := Lib.hid hw1
  have HLF := Lib.hid (fun (h1 : 1 ≤ op) (h5 : op ≤ 5) => leaf_any (n := n) (p := p) (s := s) (A := A) (m := m) (c := c) (W := w1) h1 h5 (by omega))
  unfold LeafTells at HLF
  obtain ⟨c0, c1, c2, c3, c4⟩ := cells5 HE1.out
  rw [hw1] at c0 c1 c2 c3 c4
  have HSZ := Lib.hid hs
  clear ih hc hps hB hR hm hw1 hdp hdp1 hsz hlc hv he hf hs
  by_cases o1 : op < 1
  · have HR : Hid (R = false) := Lib.hid (HR0.out.trans (if_pos (.inl o1)))
    clear HLF
    clear HIH
    go_enter Tryz.func37, Tryz.ntmps37
    go_wp2
    go_ret
    rw [HR.out, ← HW1.out]
    exact ⟨rfl, HB1.out⟩
  by_cases o14 : 14 < op
  · have HR : Hid (R = false) := Lib.hid (HR0.out.trans (if_pos (.inr o14)))
    clear HLF
    clear HIH
    go_enter Tryz.func37, Tryz.ntmps37
    go_wp2
    go_ret
    rw [HR.out, ← HW1.out]
    exact ⟨rfl, HB1.out⟩
  have HR1 := Lib.hid (HR0.out.trans (if_neg (by omega)))
  clear HR0
  by_cases o5 : op ≤ 5
  · have HR2 := Lib.hid (HR1.out.trans (if_pos o5))
    by_cases hm0 : m = 0
    · subst hm0
      have HL := Lib.hid (HLF.out (by omega) o5)
      obtain ⟨X, hX⟩ : ∃ X, X = leafG op s n := ⟨_, rfl⟩
      rw [← hX] at HL
      have HR : Hid (R = X) := Lib.hid (by rw [HR2.out, List.eq_nil_of_length_eq_zero HN.out.symm, ← hX]; rfl)
      clear HLF hX HIH
      go_enter Tryz.func37, Tryz.ntmps37
      go_wp2_with fail
      rw [← HW1.out]
      (with_reducible refine HL.out.mono ?_)
      rintro e w2 ⟨rfl, hb⟩
      have HB2 := Lib.hid (HB1.out.trans (hb.mono HB1.out.size))
      clear hb c0 c1 c2 c3 c4
      go_wp2
      go_ret
      rw [HR.out]
      exact ⟨rfl, HB2.out⟩
    · have HR : Hid (R = false) := Lib.hid (HR2.out.trans (by
        have : isNilL l = false := by
          cases l with
          | nil => exact absurd HN.out hm0
          | cons x r => rfl
        rw [this]; rfl))
      have m0 : ((m : Int) == 0) = false := by rw [beq_eq_false_iff_ne]; omega
      have m0' : ¬ (m : Int) = 0 := by omega
      clear HLF
      clear HIH
      go_enter Tryz.func37, Tryz.ntmps37
      go_wp2
      go_ret
      rw [HR.out, ← HW1.out]
      exact ⟨rfl, HB1.out⟩
  have HR2 := Lib.hid (HR1.out.trans (if_neg o5))
  clear HR1 HLF
  by_cases n0 : n = 0
  · subst n0
    by_cases s0 : s = E0
    · subst s0
      by_cases o6 : op = 6
      · subst o6
        by_cases m1 : m = 1
        · have b1 : ((m : Int) != 1) = false := by rw [m1]; rfl
          have b3 : ((m : Int) == 1) = true := by rw [m1]; rfl
          have HR : Hid (R = l.all (goodF f)) := Lib.hid (HR2.out.trans (if_neg (by rintro (h | h | ⟨h, h2⟩ | ⟨h, h2, h3⟩ | ⟨h, h2⟩) <;> first | exact h rfl | exact h2 m1 | exact h2 rfl | omega)))
          have M1 := Lib.hid m1
          clear m1
          have HRL : Hid (R = l.all (goodF f)) := HR
          go_enter Tryz.func37, Tryz.ntmps37
          go_wp2
          rw [← HW1.out]
          clear c0 c1 c2 c3 c4
          go_loopw [5] (fun i wr => ∃ k : Nat, k ≤ m ∧ i = .int .i64 (k : Int) ∧ (∀ x (hx : x < l.length), x < k → goodF f l[x] = true) ∧ Below w1.heap.size w1 wr) (fun i _ => m - (intOf i).toNat)
          case atStart => exact ⟨0, Nat.zero_le _, rfl, fun x _ hx => absurd hx (Nat.not_lt_zero _), Below.refl _ _⟩
          case round =>
            obtain ⟨k, hk, rfl, hall, hbel⟩ := hrel
            have HA := Lib.hid hall
            have HBE := Lib.hid hbel
            have z3 : wr.cell? ⟨W.heap.size, 3, none⟩ = some (.slice A m c) := (hbel.cell (p := ⟨W.heap.size, 3, none⟩) HE1.out.lt).trans (HE1.out.cell 3)
            by_cases hlt : k < m
            · have hkl : k < l.length := by rw [← HN.out]; exact hlt
              have k1 : (k : Int) < (m : Int) := by omega
              have k2 : (0 : Int) ≤ (k : Int) := by omega
              obtain ⟨g, o, rfl, _, hg, hre⟩ := HC.out (fun e => by rw [e] at hkl; exact absurd hkl (Nat.not_lt_zero _))
              obtain ⟨x, v, hxk, hrx, hf⟩ := hre.atX k hkl
              have hxm : x ∈ l := List.mem_of_getElem? hxk
              have hbw := HB1.out.trans (hbel.mono HB1.out.size)
              have HCALL := Lib.hid (HIH.out x (HS.out x hxm) B wr v (Nat.le_trans HBW.out hbw.size) (hrx.under HBW.out hbw))
              obtain ⟨X, x3, xc, rfl, hx3, q0, q1, q2, q3, q4⟩ := hrx.cells hf
              have y0 := (hbw.cell (p := ⟨g, o + k * 5, none⟩) hg).trans q0
              have y1 := (hbw.cell (p := ⟨g, o + k * 5 + 1, none⟩) hg).trans q1
              have y2 := (hbw.cell (p := ⟨g, o + k * 5 + 2, none⟩) hg).trans q2
              have y3 := (hbw.cell (p := ⟨g, o + k * 5 + 3, none⟩) hg).trans q3
              have y4 := (hbw.cell (p := ⟨g, o + k * 5 + 4, none⟩) hg).trans q4
              have HIN := Lib.hid hxm
              have HXK := Lib.hid hxk
              obtain ⟨u0, hu0⟩ : ∃ u, u = x.op := ⟨_, rfl⟩
              obtain ⟨u1, hu1⟩ : ∃ u, u = x.text := ⟨_, rfl⟩
              obtain ⟨u2, hu2⟩ : ∃ u, u = x.num := ⟨_, rfl⟩
              obtain ⟨u4, hu4⟩ : ∃ u, u = x.pos := ⟨_, rfl⟩
              obtain ⟨z, hz⟩ : ∃ z, z = goodF f x := ⟨_, rfl⟩
              rw [← hu0, ← hu1, ← hu2, ← hu4, ← hz] at HCALL
              rw [← hu0] at y0
              rw [← hu1] at y1
              rw [← hu2] at y2
              rw [← hu4] at y4
              have HZ := Lib.hid hz
              clear hre hrx hf hbw hx3 hxk hxm q0 q1 q2 q3 q4 hu0 hu1 hu2 hu4 hz hall hbel
              go_wp2_with fail
              (with_reducible refine HCALL.out.mono ?_)
              rintro e w3 ⟨rfl, hb3⟩
              have HB3 := Lib.hid (HBE.out.trans (hb3.mono HBE.out.size))
              clear hb3 y0 y1 y2 y3 y4 z3
              by_cases hz : z = true
              · subst hz
                go_wp2
                go_roundw
                case rel => exact ⟨k + 1, hlt, by go_num, fun y hy h => by
                  rcases Nat.lt_or_ge y k with h1 | h1
                  · exact HA.out y hy h1
                  · obtain rfl : y = k := by omega
                    have h2 := HXK.out
                    rw [List.getElem?_eq_getElem hy] at h2
                    injection h2 with h2
                    rw [h2]; exact HZ.out.symm, HB3.out⟩
                case measure => simp [intOf]; omega
              · obtain rfl : z = false := by simpa using hz
                have HRF : Hid (R = false) := Lib.hid (HRL.out.trans (by
                  rw [← Bool.not_eq_true]
                  intro h
                  have := List.all_eq_true.1 h x HIN.out
                  rw [← HZ.out] at this
                  cases this))
                go_wp2
                go_ret
                rw [HRF.out]
                exact ⟨rfl, HB1.out.trans (HB3.out.mono HB1.out.size)⟩
            · obtain rfl : k = m := by omega
              have HRT : Hid (R = true) := Lib.hid (HRL.out.trans (List.all_eq_true.2 fun x hx => by
                obtain ⟨j, hj, rfl⟩ := List.getElem_of_mem hx
                exact HA.out j hj (by rw [HN.out]; exact hj)))
              have hge : ¬ (k : Int) < (k : Int) := by omega
              clear hall hbel
              go_wp2
              go_ret
              rw [HRT.out]
              exact ⟨rfl, HB1.out.trans (HBE.out.mono HB1.out.size)⟩
        · have HR : Hid (R = false) := Lib.hid (HR2.out.trans (if_pos (.inr (.inr (.inl ⟨rfl, m1⟩)))))
          have b1 : ((m : Int) != 1) = true := by rw [bne_iff_ne]; omega
          have b2 : ¬ (m : Int) = 1 := by omega
          clear HIH
          go_enter Tryz.func37, Tryz.ntmps37
          go_wp2
          go_ret
          rw [HR.out, ← HW1.out]
          exact ⟨rfl, HB1.out⟩
      by_cases o13 : op = 13
      · subst o13
        by_cases m2 : m < 2
        · have HR : Hid (R = false) := Lib.hid (HR2.out.trans (if_pos (.inr (.inr (.inr (.inr ⟨rfl, m2⟩))))))
          have b1 : (m : Int) < 2 := by omega
          clear HIH
          go_enter Tryz.func37, Tryz.ntmps37
          go_wp2
          go_ret
          rw [HR.out, ← HW1.out]
          exact ⟨rfl, HB1.out⟩
        · have b1 : ¬ (m : Int) < 2 := by omega
          have HR : Hid (R = l.all (goodF f)) := Lib.hid (HR2.out.trans (if_neg (by rintro (h | h | ⟨h, h2⟩ | ⟨h, h2, h3⟩ | ⟨h, h2⟩) <;> first | exact h rfl | exact h2 rfl | omega)))
          have HRL : Hid (R = l.all (goodF f)) := HR
          go_enter Tryz.func37, Tryz.ntmps37
          go_wp2
          rw [← HW1.out]
          clear c0 c1 c2 c3 c4
          go_loopw [5] (fun i wr => ∃ k : Nat, k ≤ m ∧ i = .int .i64 (k : Int) ∧ (∀ x (hx : x < l.length), x < k → goodF f l[x] = true) ∧ Below w1.heap.size w1 wr) (fun i _ => m - (intOf i).toNat)
          case atStart => exact ⟨0, Nat.zero_le _, rfl, fun x _ hx => absurd hx (Nat.not_lt_zero _), Below.refl _ _⟩
          case round =>
            obtain ⟨k, hk, rfl, hall, hbel⟩ := hrel
            have HA := Lib.hid hall
            have HBE := Lib.hid hbel
            have z3 : wr.cell? ⟨W.heap.size, 3, none⟩ = some (.slice A m c) := (hbel.cell (p := ⟨W.heap.size, 3, none⟩) HE1.out.lt).trans (HE1.out.cell 3)
            by_cases hlt : k < m
            · have hkl : k < l.length := by rw [← HN.out]; exact hlt
              have k1 : (k : Int) < (m : Int) := by omega
              have k2 : (0 : Int) ≤ (k : Int) := by omega
              obtain ⟨g, o, rfl, _, hg, hre⟩ := HC.out (fun e => by rw [e] at hkl; exact absurd hkl (Nat.not_lt_zero _))
              obtain ⟨x, v, hxk, hrx, hf⟩ := hre.atX k hkl
              have hxm : x ∈ l := List.mem_of_getElem? hxk
              have hbw := HB1.out.trans (hbel.mono HB1.out.size)
              have HCALL := Lib.hid (HIH.out x (HS.out x hxm) B wr v (Nat.le_trans HBW.out hbw.size) (hrx.under HBW.out hbw))
              obtain ⟨X, x3, xc, rfl, hx3, q0, q1, q2, q3, q4⟩ := hrx.cells hf
              have y0 := (hbw.cell (p := ⟨g, o + k * 5, none⟩) hg).trans q0
              have y1 := (hbw.cell (p := ⟨g, o + k * 5 + 1, none⟩) hg).trans q1
              have y2 := (hbw.cell (p := ⟨g, o + k * 5 + 2, none⟩) hg).trans q2
              have y3 := (hbw.cell (p := ⟨g, o + k * 5 + 3, none⟩) hg).trans q3
              have y4 := (hbw.cell (p := ⟨g, o + k * 5 + 4, none⟩) hg).trans q4
              have HIN := Lib.hid hxm
              have HXK := Lib.hid hxk
              obtain ⟨u0, hu0⟩ : ∃ u, u = x.op := ⟨_, rfl⟩
              obtain ⟨u1, hu1⟩ : ∃ u, u = x.text := ⟨_, rfl⟩
              obtain ⟨u2, hu2⟩ : ∃ u, u = x.num := ⟨_, rfl⟩
              obtain ⟨u4, hu4⟩ : ∃ u, u = x.pos := ⟨_, rfl⟩
              obtain ⟨z, hz⟩ : ∃ z, z = goodF f x := ⟨_, rfl⟩
              rw [← hu0, ← hu1, ← hu2, ← hu4, ← hz] at HCALL
              rw [← hu0] at y0
              rw [← hu1] at y1
              rw [← hu2] at y2
              rw [← hu4] at y4
              have HZ := Lib.hid hz
              clear hre hrx hf hbw hx3 hxk hxm q0 q1 q2 q3 q4 hu0 hu1 hu2 hu4 hz hall hbel
              go_wp2_with fail
              (with_reducible refine HCALL.out.mono ?_)
              rintro e w3 ⟨rfl, hb3⟩
              have HB3 := Lib.hid (HBE.out.trans (hb3.mono HBE.out.size))
              clear hb3 y0 y1 y2 y3 y4 z3
              by_cases hz : z = true
              · subst hz
                go_wp2
                go_roundw
                case rel => exact ⟨k + 1, hlt, by go_num, fun y hy h => by
                  rcases Nat.lt_or_ge y k with h1 | h1
                  · exact HA.out y hy h1
                  · obtain rfl : y = k := by omega
                    have h2 := HXK.out
                    rw [List.getElem?_eq_getElem hy] at h2
                    injection h2 with h2
                    rw [h2]; exact HZ.out.symm, HB3.out⟩
                case measure => simp [intOf]; omega
              · obtain rfl : z = false := by simpa using hz
                have HRF : Hid (R = false) := Lib.hid (HRL.out.trans (by
                  rw [← Bool.not_eq_true]
                  intro h
                  have := List.all_eq_true.1 h x HIN.out
                  rw [← HZ.out] at this
                  cases this))
                go_wp2
                go_ret
                rw [HRF.out]
                exact ⟨rfl, HB1.out.trans (HB3.out.mono HB1.out.size)⟩
            · obtain rfl : k = m := by omega
              have HRT : Hid (R = true) := Lib.hid (HRL.out.trans (List.all_eq_true.2 fun x hx => by
                obtain ⟨j, hj, rfl⟩ := List.getElem_of_mem hx
                exact HA.out j hj (by rw [HN.out]; exact hj)))
              have hge : ¬ (k : Int) < (k : Int) := by omega
              clear hall hbel
              go_wp2
              go_ret
              rw [HRT.out]
              exact ⟨rfl, HB1.out.trans (HBE.out.mono HB1.out.size)⟩
      have e6 : (op == 6) = false := by rw [beq_eq_false_iff_ne]; exact o6
      have f6 : (op != 6) = true := by rw [bne_iff_ne]; exact o6
      have e13 : (op == 13) = false := by rw [beq_eq_false_iff_ne]; exact o13
      have f13 : (op != 13) = true := by rw [bne_iff_ne]; exact o13
      by_cases m2 : m = 2
      · have b1 : ((m : Int) != 2) = false := by rw [m2]; rfl
        have b3 : ((m : Int) == 2) = true := by rw [m2]; rfl
        have HR : Hid (R = l.all (goodF f)) := Lib.hid (HR2.out.trans (if_neg (by rintro (h | h | ⟨h, h2⟩ | ⟨h, h2, h3⟩ | ⟨h, h2⟩) <;> first | exact h rfl | exact h2 rfl | exact h3 m2 | omega)))
        have M2 := Lib.hid m2
        clear m2
        have HRL : Hid (R = l.all (goodF f)) := HR
        go_enter Tryz.func37, Tryz.ntmps37
        go_wp2
        rw [← HW1.out]
        clear c0 c1 c2 c3 c4
        go_loopw [5] (fun i wr => ∃ k : Nat, k ≤ m ∧ i = .int .i64 (k : Int) ∧ (∀ x (hx : x < l.length), x < k → goodF f l[x] = true) ∧ Below w1.heap.size w1 wr) (fun i _ => m - (intOf i).toNat)
        case atStart => exact ⟨0, Nat.zero_le _, rfl, fun x _ hx => absurd hx (Nat.not_lt_zero _), Below.refl _ _⟩
        case round =>
          obtain ⟨k, hk, rfl, hall, hbel⟩ := hrel
          have HA := Lib.hid hall
          have HBE := Lib.hid hbel
          have z3 : wr.cell? ⟨W.heap.size, 3, none⟩ = some (.slice A m c) := (hbel.cell (p := ⟨W.heap.size, 3, none⟩) HE1.out.lt).trans (HE1.out.cell 3)
          by_cases hlt : k < m
          · have hkl : k < l.length := by rw [← HN.out]; exact hlt
            have k1 : (k : Int) < (m : Int) := by omega
            have k2 : (0 : Int) ≤ (k : Int) := by omega
            obtain ⟨g, o, rfl, _, hg, hre⟩ := HC.out (fun e => by rw [e] at hkl; exact absurd hkl (Nat.not_lt_zero _))
            obtain ⟨x, v, hxk, hrx, hf⟩ := hre.atX k hkl
            have hxm : x ∈ l := List.mem_of_getElem? hxk
            have hbw := HB1.out.trans (hbel.mono HB1.out.size)
            have HCALL := Lib.hid (HIH.out x (HS.out x hxm) B wr v (Nat.le_trans HBW.out hbw.size) (hrx.under HBW.out hbw))
            obtain ⟨X, x3, xc, rfl, hx3, q0, q1, q2, q3, q4⟩ := hrx.cells hf
            have y0 := (hbw.cell (p := ⟨g, o + k * 5, none⟩) hg).trans q0
            have y1 := (hbw.cell (p := ⟨g, o + k * 5 + 1, none⟩) hg).trans q1
            have y2 := (hbw.cell (p := ⟨g, o + k * 5 + 2, none⟩) hg).trans q2
            have y3 := (hbw.cell (p := ⟨g, o + k * 5 + 3, none⟩) hg).trans q3
            have y4 := (hbw.cell (p := ⟨g, o + k * 5 + 4, none⟩) hg).trans q4
            have HIN := Lib.hid hxm
            have HXK := Lib.hid hxk
            obtain ⟨u0, hu0⟩ : ∃ u, u = x.op := ⟨_, rfl⟩
            obtain ⟨u1, hu1⟩ : ∃ u, u = x.text := ⟨_, rfl⟩
            obtain ⟨u2, hu2⟩ : ∃ u, u = x.num := ⟨_, rfl⟩
            obtain ⟨u4, hu4⟩ : ∃ u, u = x.pos := ⟨_, rfl⟩
            obtain ⟨z, hz⟩ : ∃ z, z = goodF f x := ⟨_, rfl⟩
            rw [← hu0, ← hu1, ← hu2, ← hu4, ← hz] at HCALL
            rw [← hu0] at y0
            rw [← hu1] at y1
            rw [← hu2] at y2
            rw [← hu4] at y4
            have HZ := Lib.hid hz
            clear hre hrx hf hbw hx3 hxk hxm q0 q1 q2 q3 q4 hu0 hu1 hu2 hu4 hz hall hbel
            go_wp2_with fail
            (with_reducible refine HCALL.out.mono ?_)
            rintro e w3 ⟨rfl, hb3⟩
            have HB3 := Lib.hid (HBE.out.trans (hb3.mono HBE.out.size))
            clear hb3 y0 y1 y2 y3 y4 z3
            by_cases hz : z = true
            · subst hz
              go_wp2
              go_roundw
              case rel => exact ⟨k + 1, hlt, by go_num, fun y hy h => by
                rcases Nat.lt_or_ge y k with h1 | h1
                · exact HA.out y hy h1
                · obtain rfl : y = k := by omega
                  have h2 := HXK.out
                  rw [List.getElem?_eq_getElem hy] at h2
                  injection h2 with h2
                  rw [h2]; exact HZ.out.symm, HB3.out⟩
              case measure => simp [intOf]; omega
            · obtain rfl : z = false := by simpa using hz
              have HRF : Hid (R = false) := Lib.hid (HRL.out.trans (by
                rw [← Bool.not_eq_true]
                intro h
                have := List.all_eq_true.1 h x HIN.out
                rw [← HZ.out] at this
                cases this))
              go_wp2
              go_ret
              rw [HRF.out]
              exact ⟨rfl, HB1.out.trans (HB3.out.mono HB1.out.size)⟩
          · obtain rfl : k = m := by omega
            have HRT : Hid (R = true) := Lib.hid (HRL.out.trans (List.all_eq_true.2 fun x hx => by
              obtain ⟨j, hj, rfl⟩ := List.getElem_of_mem hx
              exact HA.out j hj (by rw [HN.out]; exact hj)))
            have hge : ¬ (k : Int) < (k : Int) := by omega
            clear hall hbel
            go_wp2
            go_ret
            rw [HRT.out]
            exact ⟨rfl, HB1.out.trans (HBE.out.mono HB1.out.size)⟩
      · have HR : Hid (R = false) := Lib.hid (HR2.out.trans (if_pos (.inr (.inr (.inr (.inl ⟨o6, o13, m2⟩))))))
        have b1 : ((m : Int) != 2) = true := by rw [bne_iff_ne]; omega
        have b2 : ¬ (m : Int) = 2 := by omega
        clear HIH
        go_enter Tryz.func37, Tryz.ntmps37
        go_wp2
        go_ret
        rw [HR.out, ← HW1.out]
        exact ⟨rfl, HB1.out⟩
    · have HR : Hid (R = false) := Lib.hid (HR2.out.trans (if_pos (.inr (.inl s0))))
      have es : (s.toList == []) = false := neLit s0
      have es2 : s.toList.isEmpty = false := by rw [show s.toList.isEmpty = (s.toList == []) from by cases s.toList <;> rfl]; exact es
      have es3 : (s.toList != []) = true := by rw [bne, es]; rfl
      clear HIH
      go_enter Tryz.func37, Tryz.ntmps37
      go_wp2
      go_ret
      rw [HR.out, ← HW1.out]
      exact ⟨rfl, HB1.out⟩
  · have HR : Hid (R = false) := Lib.hid (HR2.out.trans (if_pos (.inl n0)))
    have b0 : (n != 0) = true := by rw [bne_iff_ne]; exact n0
    clear HIH
    go_enter Tryz.func37, Tryz.ntmps37
    go_wp2
    go_ret
    rw [HR.out, ← HW1.out]
    exact ⟨rfl, HB1.out⟩
theorem rgood_any : ∀ f, f ≤ 200 → RGAsk f
  | 0, _ => rgood_zero
  | f + 1, h => rgood_succ h (rgood_any f (by omega))
end Go.Proofs.YtcjfealalokjaaaGreatDoor
