/- LxSpell, LxJoin: merged. -/
import Derived.Test.YtljdnjidphmkjaaDoorLx11
import Derived.Test.YtljdnjidphmkjaaDoorLx26
set_option linter.all false
namespace Go.Proofs.YtljdnjidphmkjaaDoor
open Go Go.RowKit
/-! ### The reference's -/
set_option maxRecDepth 100000 in
set_option maxHeartbeats 4000000 in
theorem refSpell_word (n p : Int) (s : ByteArray) (w : World) (hs : s.size ≤ 1000000) :
    Calls Tryd.prog 14 #[tokV 1 s n p] w fun e w' => e = .returned (.string (toS (spellN ⟨1, s, n, p⟩))) ∧ Below w.heap.size w w' := by
  have HL := Lib.hid (length_strL s)
  obtain ⟨U, hU⟩ : ∃ U, U = toS (spellN ⟨1, s, n, p⟩) := ⟨_, rfl⟩
  have HY : Hid (wordN (strL s) = s.size → s.size ≤ 32 → U = s) := Lib.hid fun h1 h2 => by
    rw [hU, show spellN ⟨1, s, n, p⟩ = if wordN (strL s) = s.size ∧ s.size ≤ 32 then strL s else [] from rfl, if_pos ⟨h1, h2⟩, toS_strL]
  have HN : Hid (¬ (wordN (strL s) = s.size ∧ s.size ≤ 32) → U = ⟨#[]⟩) := Lib.hid fun h => by
    rw [hU, show spellN ⟨1, s, n, p⟩ = if wordN (strL s) = s.size ∧ s.size ≤ 32 then strL s else [] from rfl, if_neg h]; rfl
  rw [← hU]
  clear hU
  have HB1 := Lib.hid (belowAlloc w (.cells #[.int .i64 1, .string s, .int .i64 n, .int .i64 p] 34))
  go_enter Tryd.func14, Tryd.ntmps14
  go_wp2_with fail
  go_loop [3] (fun i => ∃ k : Nat, k ≤ s.size ∧ i = .int .i64 k ∧ Hid (wordN (strL s) = k + wordN ((strL s).drop k))) (fun i => s.size - (intOf i).toNat)
  case atStart => exact ⟨0, by omega, rfl, Lib.hid (by simp)⟩
  case round =>
    obtain ⟨k, hk, rfl, HW⟩ := hrel
    by_cases hlt : k < s.size
    · have hdr := drop_str s k hlt
      have hki : (k : Int) < (s.size : Int) := by omega
      have hk0 : (0 : Int) ≤ (k : Int) := by omega
      have HSM := Lib.hid (fun W : World => refSmall_any (s[k].toNat : Int) W)
      cases hsm : smallC (s[k].toNat : Int) with
      | true =>
        have HR : Hid (wordN (strL s) = (k + 1 : Nat) + wordN ((strL s).drop (k + 1))) := Lib.hid (by rw [HW.out, hdr, wordN_go hsm]; omega)
        rw [hsm] at HSM
        clear hdr hsm HW
        go_wp2_with fail
        refine (HSM.out _).mono ?_
        rintro e w2 ⟨rfl, rfl⟩
        go_wp2_with fail
        go_round
        case rel => exact ⟨k + 1, by omega, by go_num, HR⟩
        case measure => simp [intOf]; omega
      | false =>
        have HR : Hid (wordN (strL s) = k) := Lib.hid (by rw [HW.out, hdr, wordN_stop hsm]; rfl)
        have HU := Lib.hid (HN.out (fun h => by have := HR.out; omega))
        rw [hsm] at HSM
        clear hdr hsm HW
        go_wp2_with fail
        refine (HSM.out _).mono ?_
        rintro e w2 ⟨rfl, rfl⟩
        go_wp2_with fail
        go_ret
        rw [HU.out]
        exact ⟨rfl, HB1.out⟩
    · obtain rfl : k = s.size := by omega
      have HR : Hid (wordN (strL s) = s.size) := Lib.hid (by rw [HW.out, List.drop_eq_nil_of_le (by rw [length_strL]; exact Nat.le_refl _)]; rfl)
      have hi1 : ¬ (s.size : Int) < (s.size : Int) := by omega
      by_cases h32 : s.size ≤ 32
      · have h32' : (s.size : Int) ≤ 32 := by omega
        have HU := Lib.hid (HY.out HR.out h32)
        clear HW h32
        go_wp2_with fail
        go_ret
        rw [HU.out]
        exact ⟨rfl, HB1.out⟩
      · have h32' : ¬ (s.size : Int) ≤ 32 := by omega
        have HU := Lib.hid (HN.out (fun h => h32 h.2))
        clear HW h32
        go_wp2_with fail
        go_ret
        rw [HU.out]
        exact ⟨rfl, HB1.out⟩
set_option maxRecDepth 100000 in
set_option maxHeartbeats 4000000 in
theorem refSpell_sign (n p : Int) (s : ByteArray) (w : World) (hs : s.size ≤ 1000000) :
    Calls Tryd.prog 14 #[tokV 4 s n p] w fun e w' => e = .returned (.string (toS (spellN ⟨4, s, n, p⟩))) ∧ Below w.heap.size w w' := by
  rw [spell_sign]
  by_cases h0 : s.size = 0
  · rw [str_nil h0, show (if isSignB ⟨#[]⟩ = true then (⟨#[]⟩ : ByteArray) else ⟨#[]⟩) = ⟨#[]⟩ from rfl]
    go_enter Tryd.func14, Tryd.ntmps14
    go_wp2_with fail
    go_quiet (fail)
    go_wp2_with fail
    go_ret
    exact ⟨rfl, below_drewN (belowAlloc w _) _⟩
  · have hp : decide ((0 : Int) < (s.size : Int)) = true := decide_eq_true (by omega)
    have hp2 : (0 : Int) < (s.size : Int) := by omega
    have hz : 0 < s.size := by omega
    have HSG := Lib.hid (fun W : World => refSign_any s W (by omega))
    have HY : Hid (isSignB s = decide (signN (strL s) = s.size)) := Lib.hid (by unfold isSignB; rw [decide_eq_decide]; exact ⟨fun h => h.2, fun h => ⟨h0, h⟩⟩)
    obtain ⟨q, hq⟩ : ∃ q, q = signN (strL s) := ⟨_, rfl⟩
    rw [← hq] at HSG HY
    rw [HY.out]
    obtain ⟨W1, hW1⟩ : ∃ W1, W1 = w.alloc (.cells #[.int .i64 4, .string s, .int .i64 n, .int .i64 p] 34) := ⟨_, rfl⟩
    obtain ⟨g, hg⟩ : ∃ g, g = w.heap.size := ⟨_, rfl⟩
    have HB1 : Hid (Below w.heap.size w W1) := Lib.hid (by rw [hW1]; exact belowAlloc _ _)
    have d1 : W1.cell? ⟨g, 1, none⟩ = some (.string s) := by rw [hW1, hg]; simp
    have d0 : W1.cell? ⟨g, 0, none⟩ = some (.int .i64 4) := by rw [hW1, hg]; simp
    have HW1 := hW1.symm
    have HG := hg.symm
    clear h0 hW1 hq hg
    by_cases hqs : q = s.size
    · have e1 : ((q : Int) == (s.size : Int)) = true := by rw [hqs]; exact beq_self_eq_true _
      rw [if_pos (decide_eq_true hqs)]
      clear hqs HY
      go_enter Tryd.func14, Tryd.ntmps14
      go_wp2_with fail
      refine wp_region_held_drew (S := fun X => X.cell? ⟨g, 1, none⟩ = some (.string s)) (by kernel_rfl) d1 (fun hHeld => ?_)
      refine rgT 0 ?_
      try simp only [rgS]
      refine rgT 1 ?_
      try simp only [rgS]
      refine rgT 2 ?_
      try simp only [rgS]
      refine rgT 3 (v := .bool true) ?_
      try simp only [rgS]
      refine rgT 4 (v := .bool true) ?_
      try simp only [rgS]
      refine rgT 5 ?_
      try simp only [rgS]
      refine rgT 6 ?_
      try simp only [rgS]
      refine rgT 8 ?_
      try simp only [rgS]
      refine rgT 9 ?_
      try simp only [rgS]
      refine rgT 10 ?_
      try simp only [rgS]
      refine rgO 7 (fun K hK => ?_)
      go_simp
      (with_reducible refine (HSG.out _).mono ?_)
      rintro e w2 ⟨rfl, hb2⟩
      have HB2 := Lib.hid (HB1.out.trans ((show Below W1.heap.size W1 w2 from (Below.refl _ W1).drew.trans hb2).mono HB1.out.size))
      have z1 : w2.cell? ⟨g, 1, none⟩ = some (.string s) := (hb2.cell (p := ⟨g, 1, none⟩) (lt_of_cell d1)).trans d1
      refine hK.out _ _ z1 (fun hH2 => ?_)
      clear hK K hHeld hb2
      try simp only [rgS]
      refine rgT 11 ?_
      try simp only [rgS]
      refine rgT 12 ?_
      try simp only [rgS]
      refine wpAnyH_done (by kernel_rfl) ?_ _
      go_wp2_with fail
      go_ret
      exact ⟨rfl, HB2.out⟩
    · have e1 : ((q : Int) == (s.size : Int)) = false := by rw [beq_eq_false_iff_ne]; omega
      rw [if_neg (by simpa using hqs)]
      clear hqs HY
      go_enter Tryd.func14, Tryd.ntmps14
      go_wp2_with fail
      refine wp_region_held_drew (S := fun X => X.cell? ⟨g, 1, none⟩ = some (.string s)) (by kernel_rfl) d1 (fun hHeld => ?_)
      refine rgT 0 ?_
      try simp only [rgS]
      refine rgT 1 ?_
      try simp only [rgS]
      refine rgT 2 ?_
      try simp only [rgS]
      refine rgT 3 (v := .bool true) ?_
      try simp only [rgS]
      refine rgT 4 (v := .bool true) ?_
      try simp only [rgS]
      refine rgT 5 ?_
      try simp only [rgS]
      refine rgT 6 ?_
      try simp only [rgS]
      refine rgT 8 ?_
      try simp only [rgS]
      refine rgT 9 ?_
      try simp only [rgS]
      refine rgT 10 ?_
      try simp only [rgS]
      refine rgO 7 (fun K hK => ?_)
      go_simp
      (with_reducible refine (HSG.out _).mono ?_)
      rintro e w2 ⟨rfl, hb2⟩
      have HB2 := Lib.hid (HB1.out.trans ((show Below W1.heap.size W1 w2 from (Below.refl _ W1).drew.trans hb2).mono HB1.out.size))
      have z1 : w2.cell? ⟨g, 1, none⟩ = some (.string s) := (hb2.cell (p := ⟨g, 1, none⟩) (lt_of_cell d1)).trans d1
      refine hK.out _ _ z1 (fun hH2 => ?_)
      clear hK K hHeld hb2
      try simp only [rgS]
      refine rgT 11 ?_
      try simp only [rgS]
      refine rgT 12 ?_
      try simp only [rgS]
      refine wpAnyH_done (by kernel_rfl) ?_ _
      go_wp2_with fail
      go_ret
      exact ⟨rfl, HB2.out⟩
set_option maxRecDepth 100000 in
set_option maxHeartbeats 4000000 in
theorem refSpell_any (k n p : Int) (s : ByteArray) (w : World) (hs : s.size ≤ 1000000) (hn : -9223372036854775808 ≤ n ∧ n ≤ 9223372036854775807) :
    Calls Tryd.prog 14 #[tokV k s n p] w fun e w' => e = .returned (.string (toS (spellN ⟨k, s, n, p⟩))) ∧ Below w.heap.size w w' := by
  by_cases h1 : k = 1
  · subst h1; exact refSpell_word n p s w hs
  by_cases h4 : k = 4
  · subst h4; exact refSpell_sign n p s w hs
  have e1 : (k == 1) = false := by rw [beq_eq_false_iff_ne]; exact h1
  have e4 : (k == 4) = false := by rw [beq_eq_false_iff_ne]; exact h4
  by_cases h2 : k = 2
  · subst h2
    rw [spell_text]
    have HQ := Lib.hid (fun W : World => refQuoteX_any s W hs)
    obtain ⟨U, hU⟩ : ∃ U, U = toS (quoteN (strL s)).1 := ⟨_, rfl⟩
    obtain ⟨u, hu⟩ : ∃ u, u = (quoteN (strL s)).2 := ⟨_, rfl⟩
    rw [← hU, ← hu] at HQ
    rw [← hU]
    clear h1 h4 e1 e4 hU hu
    go_enter Tryd.func14, Tryd.ntmps14
    go_wp2_with fail
    refine (HQ.out _).mono ?_
    rintro e w2 ⟨rfl, hb2⟩
    have HB2 := Lib.hid ((belowAlloc w _).trans (hb2.mono (belowAlloc w _).size))
    clear hb2
    go_wp2_with fail
    go_ret
    exact ⟨rfl, HB2.out⟩
  have e2 : (k == 2) = false := by rw [beq_eq_false_iff_ne]; exact h2
  by_cases h3 : k = 3
  · subst h3
    rw [spell_num]
    have HP := Lib.hid (fun W : World => refPrint_any n W hn.1 hn.2)
    rcases num_cases n with ⟨b1, b2⟩ | b1 | ⟨b1, b2⟩
    · rw [if_pos ⟨b1, b2⟩]
      clear h1 h2 h4 e1 e2 e4
      go_enter Tryd.func14, Tryd.ntmps14
      go_wp2_with fail
      refine (HP.out _).mono ?_
      rintro e w2 ⟨rfl, hb2⟩
      have HB2 := Lib.hid ((belowAlloc w _).trans (hb2.mono (belowAlloc w _).size))
      clear hb2
      go_wp2_with fail
      go_ret
      exact ⟨rfl, HB2.out⟩
    · rw [if_neg (fun h => b1 h.1)]
      clear h1 h2 h4 e1 e2 e4
      go_enter Tryd.func14, Tryd.ntmps14
      go_wp2_with fail
      go_ret
      exact ⟨rfl, belowAlloc w _⟩
    · rw [if_neg (fun h => b2 h.2)]
      clear h1 h2 h4 e1 e2 e4
      go_enter Tryd.func14, Tryd.ntmps14
      go_wp2_with fail
      go_ret
      exact ⟨rfl, belowAlloc w _⟩
  have e3 : (k == 3) = false := by rw [beq_eq_false_iff_ne]; exact h3
  rw [spellT_none s n p h1 h2 h3 h4]
  clear h1 h2 h3 h4
  go_enter Tryd.func14, Tryd.ntmps14
  go_wp2_with fail
  go_ret
  exact ⟨rfl, belowAlloc w _⟩
end Go.Proofs.YtljdnjidphmkjaaDoor
namespace Go.Proofs.YtljdnjidphmkjaaDoor
open Go Go.RowKit
theorem smallT.take {ts : List TokM} (h : smallT ts) (j : Nat) : smallT (ts.take j) := fun t ht => h t (List.mem_of_mem_take ht)
/-! ### The reference's Join -/
set_option maxRecDepth 100000 in
set_option maxHeartbeats 8000000 in
theorem refJoin_any (A : Option Addr) (ts : List TokM) (n c : Nat) (w : World) (hn : ts.length = n) (hn9 : n ≤ 1000) (hl : ToksAt w A ts) (hsm : smallT ts) :
    Calls Tryd.prog 18 #[.slice A n c] w fun e w' => e = .returned (.string (toS (joinN ts))) ∧ Below w.heap.size w w' := by
  have HN := Lib.hid hn
  have HL := Lib.hid hl
  have HSM := Lib.hid hsm
  clear hn hl hsm
  go_enter Tryd.func18, Tryd.ntmps18
  go_wp2_with fail
  go_loopw [3, 4] (fun ov jv wr => ∃ j : Nat, j ≤ n ∧ jv = .int .i64 (j : Int) ∧ ov = .string (toS (joinN (ts.take j))) ∧ Below w.heap.size w wr) (fun _ jv _ => n - (intOf jv).toNat)
  case atStart => exact ⟨0, Nat.zero_le _, rfl, rfl, Below.refl _ _⟩
  case round =>
    obtain ⟨j, hj, rfl, rfl, hbel⟩ := hrel
    have HBE := Lib.hid hbel
    clear hbel
    have HJL := Lib.hid (joinN_len (HSM.out.take j) (by rw [List.length_take, HN.out]; omega))
    by_cases hlt : j < n
    · have hjl : j < ts.length := by rw [HN.out]; exact hlt
      obtain ⟨b, o, rfl, _, x0, x1, x2, x3⟩ := (HL.out.below HBE.out).at hjl
      have hi0' : (0 : Int) ≤ (j : Int) := by omega
      have hi1' : (j : Int) < (n : Int) := by omega
      have htk : ts.take (j + 1) = ts.take j ++ [ts[j]] := by rw [List.take_succ_eq_append_getElem hjl]
      have HTX := Lib.hid (joinN_snoc (ts.take j) ts[j])
      rw [← htk] at HTX
      obtain ⟨q1, q2, q3⟩ := HSM.out ts[j] (List.getElem_mem hjl)
      have hspl := spellN_len ts[j]
      have HSP := Lib.hid (fun (W : World) => refSpell_any ts[j].kind ts[j].num ts[j].pos ts[j].text W (by omega) ⟨q2, q3⟩)
      obtain ⟨t, ht⟩ : ∃ t, t = ts[j] := ⟨_, rfl⟩
      rw [← ht] at x0 x1 x2 x3 HTX HSP hspl q1
      obtain ⟨X, hX⟩ : ∃ X, X = spellN t := ⟨_, rfl⟩
      have HSP2 := Lib.hid (fun (W : World) => show Calls Tryd.prog 14 #[tokV t.kind t.text t.num t.pos] W fun e w' => e = .returned (.string (toS X)) ∧ Below W.heap.size W w' by rw [hX]; exact HSP.out W)
      rw [← hX] at HTX hspl
      have HXB : Hid (Bytes X) := Lib.hid (by rw [hX]; exact spellN_bytes t)
      obtain ⟨k0, s0, n0, p0⟩ := t
      simp only at x0 x1 x2 x3 HSP2 hspl q1
      obtain ⟨J, hJ⟩ : ∃ J, J = joinN (ts.take j) := ⟨_, rfl⟩
      have HJB : Hid (Bytes J) := Lib.hid (by rw [hJ]; exact joinN_bytes _)
      rw [← hJ] at HTX HJL ⊢
      clear ht htk hjl HSP hX q2 q3 hJ
      go_wp2_with fail
      refine (HSP2.out _).mono ?_
      rintro e w2 ⟨rfl, hb2⟩
      have HB2 := Lib.hid (HBE.out.trans (hb2.mono HBE.out.size))
      clear hb2
      have hJs : (toS J).size ≤ 2000041000 := by rw [size_toS]; exact HJL.out
      have hXs : (toS X).size ≤ 2000040 := by rw [size_toS]; omega
      by_cases h0 : X = []
      · have HR : Hid (toS (joinN (ts.take (j + 1))) = toS J ++ ⟨#[]⟩) := Lib.hid (by
          rw [HTX.out, if_neg (fun hq => hq.1 h0), h0, List.append_nil]
          rw [show (⟨#[]⟩ : ByteArray) = toS [] from rfl, toS_append HJB.out (.of_mem (by simp)), List.append_nil])
        have hs0 : toS X = ⟨#[]⟩ := by rw [h0]; rfl
        rw [hs0]
        obtain ⟨T, hT⟩ : ∃ T, T = toS J := ⟨_, rfl⟩
        rw [← hT] at HR hJs ⊢
        have hTU : T.size + (⟨#[]⟩ : ByteArray).size ≤ 9223372036854775807 := by show T.size + 0 ≤ _; omega
        clear hs0 h0 hT hXs
        go_wp2_with fail
        go_roundw
        case rel => exact ⟨j + 1, by omega, by go_num, by rw [HR.out], HB2.out⟩
        case measure => simp [intOf]; omega
      · have hus : (toS X).size ≠ 0 := by rw [size_toS]; exact fun e => h0 (List.eq_nil_of_length_eq_zero e)
        obtain ⟨b1, b2⟩ := ne_of_size hus
        by_cases h1 : J = []
        · have HR : Hid (toS (joinN (ts.take (j + 1))) = ⟨#[]⟩ ++ toS X) := Lib.hid (by
            rw [HTX.out, if_neg (fun hq => hq.2 h1), h1, show (⟨#[]⟩ : ByteArray) = toS [] from rfl, toS_append (.of_mem (by simp)) HXB.out])
          have hs0 : toS J = ⟨#[]⟩ := by rw [h1]; rfl
          rw [hs0]
          obtain ⟨U, hU⟩ : ∃ U, U = toS X := ⟨_, rfl⟩
          rw [← hU] at HR b1 b2 hXs ⊢
          have hTU : (⟨#[]⟩ : ByteArray).size + U.size ≤ 9223372036854775807 := by show 0 + U.size ≤ _; omega
          clear hs0 h0 h1 hU hus hJs
          go_wp2_with fail
          go_roundw
          case rel => exact ⟨j + 1, by omega, by go_num, by rw [HR.out], HB2.out⟩
          case measure => simp [intOf]; omega
        · have hjs : (toS J).size ≠ 0 := by rw [size_toS]; exact fun e => h1 (List.eq_nil_of_length_eq_zero e)
          obtain ⟨d1, d2⟩ := ne_of_size hjs
          have HR : Hid (toS (joinN (ts.take (j + 1))) = toS J ++ ⟨#[32]⟩ ++ toS X) := Lib.hid (by
            have h32 : Bytes [32] := .of_mem (by decide)
            rw [HTX.out, if_pos ⟨h0, h1⟩, show (⟨#[32]⟩ : ByteArray) = toS [32] from rfl, toS_append HJB.out h32, toS_append (HJB.out.append h32) HXB.out])
          obtain ⟨U, hU⟩ : ∃ U, U = toS X := ⟨_, rfl⟩
          obtain ⟨T, hT⟩ : ∃ T, T = toS J := ⟨_, rfl⟩
          rw [← hU, ← hT] at HR
          rw [← hU] at b1 b2 hXs
          rw [← hT] at d1 d2 hJs
          rw [← hU, ← hT]
          have hTU : T.size + (⟨#[32]⟩ : ByteArray).size ≤ 9223372036854775807 := by show T.size + 1 ≤ _; omega
          have hTV : (T ++ (⟨#[32]⟩ : ByteArray)).size + U.size ≤ 9223372036854775807 := by rw [ByteArray.size_append]; show T.size + 1 + U.size ≤ _; omega
          clear h0 h1 hU hT hus hjs
          go_wp2_with fail
          go_roundw
          case rel => exact ⟨j + 1, by omega, by go_num, by rw [HR.out], HB2.out⟩
          case measure => simp [intOf]; omega
    · obtain rfl : j = n := by omega
      have hall : ts.take j = ts := by rw [← HN.out]; exact List.take_length
      rw [hall]
      have hi1' : ¬ (j : Int) < (j : Int) := by omega
      clear hall
      go_wp2_with fail
      go_ret
      exact ⟨rfl, HBE.out⟩
/-! ### Same -/
end Go.Proofs.YtljdnjidphmkjaaDoor
