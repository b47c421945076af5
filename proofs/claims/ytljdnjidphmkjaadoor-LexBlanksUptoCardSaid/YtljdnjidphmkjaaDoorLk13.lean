/- LxLawK: merged. -/
import Derived.Test.YtljdnjidphmkjaaDoorLk11
set_option linter.all false
namespace Go.Proofs.YtljdnjidphmkjaaDoor
open Go Go.RowKit
/-- The number of what the law lays before a token. -/
def sepK (xs : List Int) (i : Nat) : Nat := if xs.length = 0 then 0 else (xs.getD (i % xs.length) 0 % 5).toNat
theorem sepK_none {xs : List Int} (h : xs.length = 0) (i : Nat) : sepK xs i = 0 := if_pos h
theorem sepK_some {xs : List Int} (h : xs.length ≠ 0) (i : Nat) : sepK xs i = (xs.getD (i % xs.length) 0 % 5).toNat := if_neg h
theorem tail_str (S : ByteArray) (l : List Int) (hl : Bytes l) (h : S = toS l) : strL (S ++ ⟨#[32, 35, 101, 110, 100]⟩) = l ++ tailL := by
  have e1 := toS_append hl (show Bytes tailL from .of_mem (by decide))
  rw [h, show (⟨#[32, 35, 101, 110, 100]⟩ : ByteArray) = toS tailL from rfl, e1, strL_toS (hl.append (.of_mem (by decide)))]
set_option maxRecDepth 100000 in
set_option maxHeartbeats 8000000 in
theorem lexBlanks_any (ts : List TokM) (A : Option Addr) (n c : Nat) (xs : List Int) (B : Option Addr) (m d : Nat) (w : World) (h : Ask11 w) (hn : ts.length = n) (hnc : n ≤ c) (hn9 : n ≤ 9223372036854775807) (hok : TokOk ts) (hbig : ∀ t ∈ ts, t.text.size ≤ 2000000) (ht : ToksAt w A ts) (hm : xs.length = m) (hmd : m ≤ d) (hm9 : m ≤ 9223372036854775807) (hx : Bytes xs) (hl : Lies w B xs) :
    Calls Tryd.prog 6 #[.slice A n c, .slice B m d] w fun e w' => e = .returned (.bool true) ∧ Below w.heap.size w w' := by
  have HA := Lib.hid h
  have HAL := Lib.hid (alive11_any w h.marks h.max)
  have HT := Lib.hid ht
  have HN := Lib.hid hn
  have HM := Lib.hid hm
  have HX := Lib.hid hx
  have HLI := Lib.hid hl
  have HSM : Hid (smallU ts) := Lib.hid fun t ht => ⟨hbig t ht, (hok t ht).2⟩
  obtain ⟨kf, hkf⟩ : ∃ kf, kf = sepK xs := ⟨_, rfl⟩
  have HK := Lib.hid hkf
  clear h ht hn hok hm hx hl hbig hkf
  by_cases h6 : 60 < n
  · have c1 : (60 : Int) < (n : Int) := by omega
    go_enter Tryd.func6, Tryd.ntmps6
    go_wp2_with fail
    refine HAL.out.mono ?_
    rintro e w1 ⟨rfl, hb1⟩
    have HB1 := Lib.hid hb1
    clear hb1
    go_wp2_with fail
    go_ret
    exact ⟨rfl, HB1.out⟩
  have c1 : ¬ (60 : Int) < (n : Int) := by omega
  go_enter Tryd.func6, Tryd.ntmps6
  go_wp2_with fail
  refine HAL.out.mono ?_
  rintro e w1 ⟨rfl, hb1⟩
  have HB1 := Lib.hid hb1
  clear hb1
  go_wp2_with fail
  go_loopw [5, 6, 7] (fun sv nv iv wr => ∃ (i q : Nat) (S : ByteArray), i ≤ n ∧ q ≤ i ∧ sv = .string S ∧ nv = .int .i64 (q : Int) ∧ iv = .int .i64 (i : Int) ∧ S.size ≤ 212 * i ∧ Hid (S = toS (textB kf (ts.take i))) ∧ Hid ((bodyOf (ts.take i)).length = q) ∧ Below w.heap.size w wr) (fun _ _ iv _ => n - (intOf iv).toNat)
  case atStart => exact ⟨0, 0, ⟨#[]⟩, Nat.zero_le _, Nat.le_refl _, rfl, rfl, rfl, Nat.le_refl _, Lib.hid rfl, Lib.hid rfl, HB1.out⟩
  case round =>
    obtain ⟨i, q, S, hi, hqi, rfl, rfl, rfl, hSs, HS, HQ, hbel⟩ := hrel
    have HBE := Lib.hid hbel
    clear hbel
    by_cases hlt : i < n
    · have hjl : i < ts.length := by rw [HN.out]; exact hlt
      obtain ⟨b, o, rfl, hbl, x0, x1, x2, x3⟩ := (HT.out.below HBE.out).at hjl
      have hi0' : (0 : Int) ≤ (i : Int) := by omega
      have hi1' : (i : Int) < (n : Int) := by omega
      have htk : ts.take (i + 1) = ts.take i ++ [ts[i]] := by rw [List.take_succ_eq_append_getElem hjl]
      have htl : (ts.take i).length = i := by rw [List.length_take]; omega
      have HTX := Lib.hid (textB_snoc kf (ts.take i) ts[i])
      have HQX := Lib.hid (body_snoc (ts.take i) ts[i])
      rw [← htk, htl] at HTX
      rw [← htk] at HQX
      obtain ⟨q1, q2, q3⟩ := HSM.out ts[i] (List.getElem_mem hjl)
      have HSP := Lib.hid (fun (W : World) (hW : Marks W) => lexSpell_any ts[i].kind ts[i].num ts[i].pos ts[i].text W hW (by omega) ⟨q2, q3⟩)
      obtain ⟨X, hX⟩ : ∃ X, X = spellN ts[i] := ⟨_, rfl⟩
      have HXB : Hid (Bytes X) := Lib.hid (by rw [hX]; exact spellN_bytes _)
      obtain ⟨U, hU⟩ : ∃ U, U = toS X := ⟨_, rfl⟩
      have HUX := Lib.hid hU
      have HSP2 := Lib.hid (fun (W : World) (hW : Marks W) => show Calls Tryd.prog 13 #[tokV ts[i].kind ts[i].text ts[i].num ts[i].pos] W fun e w' => e = .returned (.string U) ∧ Below W.heap.size W w' by rw [hU, hX]; exact HSP.out W hW)
      rw [← hX] at HTX HQX
      obtain ⟨t, ht⟩ : ∃ t, t = ts[i] := ⟨_, rfl⟩
      rw [← ht] at x0 x1 x2 x3 HSP2
      obtain ⟨k0, s0, n0, p0⟩ := t
      simp only at x0 x1 x2 x3 HSP2
      clear ht htk htl hjl HSP hX hU q1 q2 q3
      go_wp2_with fail
      refine (HSP2.out _ (HA.out.marks.below HBE.out)).mono ?_
      rintro e w2 ⟨rfl, hb2⟩
      have HB2 := Lib.hid (HBE.out.trans (hb2.mono HBE.out.size))
      have hsz2 : w.heap.size ≤ w2.heap.size := HB2.out.size
      clear hb2 x0 x1 x2 x3
      by_cases hz : 200 < U.size
      · have c3 : (200 : Int) < (U.size : Int) := by omega
        clear hz
        go_wp2_with fail
        go_ret
        exact ⟨rfl, HB2.out⟩
      have c3 : ¬ (200 : Int) < (U.size : Int) := by omega
      by_cases h0 : X = []
      · rw [if_pos h0] at HTX
        rw [if_pos h0, Nat.add_zero] at HQX
        have hs0 : U = ⟨#[]⟩ := by rw [HUX.out, h0]; rfl
        rw [hs0] at c3 ⊢
        clear hs0 h0 hz
        go_wp2_with fail
        go_roundw
        case rel => exact ⟨i + 1, q, S, by omega, by omega, rfl, rfl, by go_num, by omega, Lib.hid (by rw [HTX.out]; exact HS.out), Lib.hid (by rw [HQX.out]; exact HQ.out), HB2.out⟩
        case measure => simp [intOf]; omega
      · rw [if_neg h0] at HTX HQX
        have hus : U.size ≠ 0 := by rw [HUX.out, size_toS]; exact fun e => h0 (List.eq_nil_of_length_eq_zero e)
        obtain ⟨b1, b2⟩ := ne_of_size hus
        have hU2 : U.size ≤ 200 := by omega
        have HQ1 : Hid ((bodyOf (ts.take (i + 1))).length = q + 1) := Lib.hid (by rw [HQX.out, HQ.out])
        obtain ⟨k, hk⟩ : ∃ k, k = kf i := ⟨_, rfl⟩
        have HTB : Hid (∀ kk, kk = k → toS (textB kf (ts.take i)) ++ (toS (sepL kk) ++ toS X) = toS (textB kf (ts.take (i + 1)))) := Lib.hid fun kk e => by
          rw [HTX.out, e, hk, ← toS_append ((textB_bytes _ _).append (sepL_bytes _)) HXB.out, ← toS_append (textB_bytes _ _) (sepL_bytes _), ByteArray.append_assoc]
        have hki : sepK xs i = k := by rw [hk, HK.out]
        clear h0 hus hz HTX HQX hk HSP2
        by_cases hm0 : m = 0
        · subst hm0
          rw [sepK_none HM.out] at hki
          subst hki
          have HT3 := HTB.out 0 rfl
          have hls : (⟨#[32]⟩ : ByteArray).size = 1 := rfl
          have r0 := fun W : World => run_string_add_sum (P := Tryd.prog) (w := W) S ⟨#[32]⟩ (by omega)
          have r1 : S.size + (⟨#[32]⟩ : ByteArray).size ≤ 9223372036854775807 := by omega
          obtain ⟨Y, hY⟩ : ∃ Y, Y = S ++ ⟨#[32]⟩ := ⟨_, rfl⟩
          have hYs : Y.size = S.size + 1 := by rw [hY, ByteArray.size_append, hls]
          have HY := Lib.hid (hY.trans (congrArg (S ++ ·) (show ⟨#[32]⟩ = toS (sepL 0) from rfl)))
          rw [← hY] at r0
          have r2 := fun W : World => run_string_add_sum (P := Tryd.prog) (w := W) Y U (by omega)
          have r3 : Y.size + U.size ≤ 9223372036854775807 := by omega
          have hZs : (Y ++ U).size ≤ 212 * (i + 1) := by rw [ByteArray.size_append]; omega
          obtain ⟨Z, hZ⟩ : ∃ Z, Z = Y ++ U := ⟨_, rfl⟩
          rw [← hZ] at r2 hZs
          have HZ : Hid (Z = toS (textB kf (ts.take (i + 1)))) := Lib.hid (by rw [hZ, HY.out, HS.out, HUX.out, ByteArray.append_assoc]; exact HT3)
          have HZS := Lib.hid hZs
          clear HTB hY hls hYs hZ hZs HY
          go_wp2_with fail
          go_roundw
          case rel => exact ⟨i + 1, q + 1, Z, by omega, by omega, rfl, by go_num, by go_num, HZS.out, HZ, HQ1, (HB2.out.alloc hsz2 _)⟩
          case measure => simp [intOf]; omega
        · have mp : (0 : Int) < (m : Int) := by omega
          have nz : ¬ (m : Int) = 0 := by omega
          have hmj : i % m < m := Nat.mod_lt _ (by omega)
          have htm : (i : Int).tmod (m : Int) = ((i % m : Nat) : Int) := by rw [Int.tmod_eq_emod_of_nonneg (by omega)]; omega
          rw [sepK_some (by rw [HM.out]; exact hm0), HM.out] at hki
          obtain ⟨bb, oo, rfl, -, hlt2, hcell⟩ := (HLI.out.below HB2.out) (by rw [HM.out]; omega)
          have hy := hcell (i % m) _ (get_ints .u8 xs (i % m) (by rw [HM.out]; exact hmj))
          have hyb := HX.out (i % m)
          obtain ⟨y, hyy⟩ : ∃ y, y = xs.getD (i % m) 0 := ⟨_, rfl⟩
          rw [← hyy] at hy hyb hki
          obtain ⟨jj, hjj⟩ : ∃ j, j = i % m := ⟨_, rfl⟩
          rw [← hjj] at hy hmj htm
          have hj0 : (0 : Int) ≤ (jj : Int) := by omega
          have hj1 : (jj : Int) < (m : Int) := by omega
          have ht5 : y.tmod 5 = y % 5 := Int.tmod_eq_emod_of_nonneg hyb.1
          have h5 : y % 5 = 0 ∨ y % 5 = 1 ∨ y % 5 = 2 ∨ y % 5 = 3 ∨ y % 5 = 4 := by omega
          clear hyy hjj hcell mp
          rcases h5 with h5 | h5 | h5 | h5 | h5
          · rw [h5] at ht5 hki
            subst hki
            clear h5
            have HT3 := HTB.out 0 rfl
            have hls : (⟨#[32]⟩ : ByteArray).size = 1 := rfl
            have r0 := fun W : World => run_string_add_sum (P := Tryd.prog) (w := W) S ⟨#[32]⟩ (by omega)
            have r1 : S.size + (⟨#[32]⟩ : ByteArray).size ≤ 9223372036854775807 := by omega
            obtain ⟨Y, hY⟩ : ∃ Y, Y = S ++ ⟨#[32]⟩ := ⟨_, rfl⟩
            have hYs : Y.size = S.size + 1 := by rw [hY, ByteArray.size_append, hls]
            have HY := Lib.hid (hY.trans (congrArg (S ++ ·) (show ⟨#[32]⟩ = toS (sepL 0) from rfl)))
            rw [← hY] at r0
            have r2 := fun W : World => run_string_add_sum (P := Tryd.prog) (w := W) Y U (by omega)
            have r3 : Y.size + U.size ≤ 9223372036854775807 := by omega
            have hZs : (Y ++ U).size ≤ 212 * (i + 1) := by rw [ByteArray.size_append]; omega
            obtain ⟨Z, hZ⟩ : ∃ Z, Z = Y ++ U := ⟨_, rfl⟩
            rw [← hZ] at r2 hZs
            have HZ : Hid (Z = toS (textB kf (ts.take (i + 1)))) := Lib.hid (by rw [hZ, HY.out, HS.out, HUX.out, ByteArray.append_assoc]; exact HT3)
            have HZS := Lib.hid hZs
            clear HTB hY hls hYs hZ hZs HY
            go_wp2_with fail
            go_roundw
            case rel => exact ⟨i + 1, q + 1, Z, by omega, by omega, rfl, by go_num, by go_num, HZS.out, HZ, HQ1, (HB2.out.alloc hsz2 _)⟩
            case measure => simp [intOf]; omega
          · rw [h5] at ht5 hki
            subst hki
            clear h5
            have HT3 := HTB.out 1 rfl
            have hls : (⟨#[9, 10]⟩ : ByteArray).size = 2 := rfl
            have r0 := fun W : World => run_string_add_sum (P := Tryd.prog) (w := W) S ⟨#[9, 10]⟩ (by omega)
            have r1 : S.size + (⟨#[9, 10]⟩ : ByteArray).size ≤ 9223372036854775807 := by omega
            obtain ⟨Y, hY⟩ : ∃ Y, Y = S ++ ⟨#[9, 10]⟩ := ⟨_, rfl⟩
            have hYs : Y.size = S.size + 2 := by rw [hY, ByteArray.size_append, hls]
            have HY := Lib.hid (hY.trans (congrArg (S ++ ·) (show ⟨#[9, 10]⟩ = toS (sepL 1) from rfl)))
            rw [← hY] at r0
            have r2 := fun W : World => run_string_add_sum (P := Tryd.prog) (w := W) Y U (by omega)
            have r3 : Y.size + U.size ≤ 9223372036854775807 := by omega
            have hZs : (Y ++ U).size ≤ 212 * (i + 1) := by rw [ByteArray.size_append]; omega
            obtain ⟨Z, hZ⟩ : ∃ Z, Z = Y ++ U := ⟨_, rfl⟩
            rw [← hZ] at r2 hZs
            have HZ : Hid (Z = toS (textB kf (ts.take (i + 1)))) := Lib.hid (by rw [hZ, HY.out, HS.out, HUX.out, ByteArray.append_assoc]; exact HT3)
            have HZS := Lib.hid hZs
            clear HTB hY hls hYs hZ hZs HY
            go_wp2_with fail
            go_roundw
            case rel => exact ⟨i + 1, q + 1, Z, by omega, by omega, rfl, by go_num, by go_num, HZS.out, HZ, HQ1, (HB2.out.alloc hsz2 _)⟩
            case measure => simp [intOf]; omega
          · rw [h5] at ht5 hki
            subst hki
            clear h5
            have HT3 := HTB.out 2 rfl
            have hls : (⟨#[32, 35, 32, 112, 101, 114, 109, 105, 116, 32, 34, 10]⟩ : ByteArray).size = 12 := rfl
            have r0 := fun W : World => run_string_add_sum (P := Tryd.prog) (w := W) S ⟨#[32, 35, 32, 112, 101, 114, 109, 105, 116, 32, 34, 10]⟩ (by omega)
            have r1 : S.size + (⟨#[32, 35, 32, 112, 101, 114, 109, 105, 116, 32, 34, 10]⟩ : ByteArray).size ≤ 9223372036854775807 := by omega
            obtain ⟨Y, hY⟩ : ∃ Y, Y = S ++ ⟨#[32, 35, 32, 112, 101, 114, 109, 105, 116, 32, 34, 10]⟩ := ⟨_, rfl⟩
            have hYs : Y.size = S.size + 12 := by rw [hY, ByteArray.size_append, hls]
            have HY := Lib.hid (hY.trans (congrArg (S ++ ·) (show ⟨#[32, 35, 32, 112, 101, 114, 109, 105, 116, 32, 34, 10]⟩ = toS (sepL 2) from rfl)))
            rw [← hY] at r0
            have r2 := fun W : World => run_string_add_sum (P := Tryd.prog) (w := W) Y U (by omega)
            have r3 : Y.size + U.size ≤ 9223372036854775807 := by omega
            have hZs : (Y ++ U).size ≤ 212 * (i + 1) := by rw [ByteArray.size_append]; omega
            obtain ⟨Z, hZ⟩ : ∃ Z, Z = Y ++ U := ⟨_, rfl⟩
            rw [← hZ] at r2 hZs
            have HZ : Hid (Z = toS (textB kf (ts.take (i + 1)))) := Lib.hid (by rw [hZ, HY.out, HS.out, HUX.out, ByteArray.append_assoc]; exact HT3)
            have HZS := Lib.hid hZs
            clear HTB hY hls hYs hZ hZs HY
            go_wp2_with fail
            go_roundw
            case rel => exact ⟨i + 1, q + 1, Z, by omega, by omega, rfl, by go_num, by go_num, HZS.out, HZ, HQ1, (HB2.out.alloc hsz2 _)⟩
            case measure => simp [intOf]; omega
          · rw [h5] at ht5 hki
            subst hki
            clear h5
            have HT3 := HTB.out 3 rfl
            have hls : (⟨#[13, 10, 10]⟩ : ByteArray).size = 3 := rfl
            have r0 := fun W : World => run_string_add_sum (P := Tryd.prog) (w := W) S ⟨#[13, 10, 10]⟩ (by omega)
            have r1 : S.size + (⟨#[13, 10, 10]⟩ : ByteArray).size ≤ 9223372036854775807 := by omega
            obtain ⟨Y, hY⟩ : ∃ Y, Y = S ++ ⟨#[13, 10, 10]⟩ := ⟨_, rfl⟩
            have hYs : Y.size = S.size + 3 := by rw [hY, ByteArray.size_append, hls]
            have HY := Lib.hid (hY.trans (congrArg (S ++ ·) (show ⟨#[13, 10, 10]⟩ = toS (sepL 3) from rfl)))
            rw [← hY] at r0
            have r2 := fun W : World => run_string_add_sum (P := Tryd.prog) (w := W) Y U (by omega)
            have r3 : Y.size + U.size ≤ 9223372036854775807 := by omega
            have hZs : (Y ++ U).size ≤ 212 * (i + 1) := by rw [ByteArray.size_append]; omega
            obtain ⟨Z, hZ⟩ : ∃ Z, Z = Y ++ U := ⟨_, rfl⟩
            rw [← hZ] at r2 hZs
            have HZ : Hid (Z = toS (textB kf (ts.take (i + 1)))) := Lib.hid (by rw [hZ, HY.out, HS.out, HUX.out, ByteArray.append_assoc]; exact HT3)
            have HZS := Lib.hid hZs
            clear HTB hY hls hYs hZ hZs HY
            go_wp2_with fail
            go_roundw
            case rel => exact ⟨i + 1, q + 1, Z, by omega, by omega, rfl, by go_num, by go_num, HZS.out, HZ, HQ1, (HB2.out.alloc hsz2 _)⟩
            case measure => simp [intOf]; omega
          · rw [h5] at ht5 hki
            subst hki
            clear h5
            have HT3 := HTB.out 4 rfl
            have hls : (⟨#[35, 10]⟩ : ByteArray).size = 2 := rfl
            have r0 := fun W : World => run_string_add_sum (P := Tryd.prog) (w := W) S ⟨#[35, 10]⟩ (by omega)
            have r1 : S.size + (⟨#[35, 10]⟩ : ByteArray).size ≤ 9223372036854775807 := by omega
            obtain ⟨Y, hY⟩ : ∃ Y, Y = S ++ ⟨#[35, 10]⟩ := ⟨_, rfl⟩
            have hYs : Y.size = S.size + 2 := by rw [hY, ByteArray.size_append, hls]
            have HY := Lib.hid (hY.trans (congrArg (S ++ ·) (show ⟨#[35, 10]⟩ = toS (sepL 4) from rfl)))
            rw [← hY] at r0
            have r2 := fun W : World => run_string_add_sum (P := Tryd.prog) (w := W) Y U (by omega)
            have r3 : Y.size + U.size ≤ 9223372036854775807 := by omega
            have hZs : (Y ++ U).size ≤ 212 * (i + 1) := by rw [ByteArray.size_append]; omega
            obtain ⟨Z, hZ⟩ : ∃ Z, Z = Y ++ U := ⟨_, rfl⟩
            rw [← hZ] at r2 hZs
            have HZ : Hid (Z = toS (textB kf (ts.take (i + 1)))) := Lib.hid (by rw [hZ, HY.out, HS.out, HUX.out, ByteArray.append_assoc]; exact HT3)
            have HZS := Lib.hid hZs
            clear HTB hY hls hYs hZ hZs HY
            go_wp2_with fail
            go_roundw
            case rel => exact ⟨i + 1, q + 1, Z, by omega, by omega, rfl, by go_num, by go_num, HZS.out, HZ, HQ1, (HB2.out.alloc hsz2 _)⟩
            case measure => simp [intOf]; omega
    · obtain rfl : i = n := by omega
      have hall : ts.take i = ts := by rw [← HN.out]; exact List.take_length
      rw [hall] at HS HQ
      have hi1' : ¬ (i : Int) < (i : Int) := by omega
      have HTS := Lib.hid (tail_str S (textB kf ts) (textB_bytes _ _) HS.out)
      have hSl : S.size = (textB kf ts).length := by rw [HS.out, size_toS]
      have HJ := Lib.hid (fun (W : World) (hW : Marks W) (hl : ToksAt W A ts) => lexJoinU_any A ts i c W hW HN.out (by omega) hl HSM.out)
      have hJl : (toS (joinN ts)).size = (joinN ts).length := size_toS _
      have HJS : Hid (strL (toS (joinN ts)) = joinN ts) := Lib.hid (strL_toS (joinN_bytes _))
      obtain ⟨J, hJ⟩ : ∃ J, J = toS (joinN ts) := ⟨_, rfl⟩
      rw [← hJ] at HJ hJl HJS
      have hls : (⟨#[32, 35, 101, 110, 100]⟩ : ByteArray).size = 5 := rfl
      have r0 := fun W : World => run_string_add_sum (P := Tryd.prog) (w := W) S ⟨#[32, 35, 101, 110, 100]⟩ (by omega)
      have r1 : S.size + (⟨#[32, 35, 101, 110, 100]⟩ : ByteArray).size ≤ 9223372036854775807 := by omega
      obtain ⟨Y, hY⟩ : ∃ Y, Y = S ++ ⟨#[32, 35, 101, 110, 100]⟩ := ⟨_, rfl⟩
      rw [← hY] at r0 HTS
      have hS9 : S.size ≤ 100000 := by omega
      have HSL := Lib.hid hSl
      have HJL := Lib.hid hJl
      clear hall hY hJ hSl hJl hls hSs hlt
      by_cases h2 : 2048 < S.size
      · have h2' : (2048 : Int) < (S.size : Int) := by omega
        clear h2
        go_wp2_with fail
        go_ret
        exact ⟨rfl, HBE.out⟩
      have h2' : ¬ (2048 : Int) < (S.size : Int) := by omega
      clear h2
      have HSC := Lib.hid (fun (W : World) (hW : Ask11 W) => scan_any Y W hW)
      have HSC2 := Lib.hid (fun (W : World) (hW : Ask11 W) => scan_any J W hW)
      by_cases h5 : 2048 < S.size + 5
      · have h5' : (2048 : Int) < (S.size : Int) + 5 := by omega
        clear h5
        obtain ⟨R2, hR2⟩ : ∃ R, R = scanL (strL Y) := ⟨_, rfl⟩
        obtain ⟨R4, hR4⟩ : ∃ R, R = scanL (strL J) := ⟨_, rfl⟩
        rw [← hR2] at HSC
        rw [← hR4] at HSC2
        obtain ⟨us2, e2, p2⟩ := R2
        obtain ⟨us4, e4, p4⟩ := R4
        obtain ⟨m2, hm2⟩ : ∃ m, m = us2.length := ⟨_, rfl⟩
        obtain ⟨m4, hm4⟩ : ∃ m, m = us4.length := ⟨_, rfl⟩
        clear hR2 hR4

        go_wp2_with fail
        refine (HSC.out wr (HA.out.below HBE.out)).mono ?_
        rintro e w2 ⟨A2, c2, v2, rfl, hc2, ht2, he2, hb2⟩
        have HB2 := Lib.hid (HBE.out.trans (hb2.mono HBE.out.size))
        have HT2 := Lib.hid ht2
        have HE2 := Lib.hid he2
        simp only at hc2 HT2 HE2
        clear hb2 ht2 he2
        go_wp2_with fail
        refine (HJ.out w2 (HA.out.marks.below HB2.out) (HT.out.below HB2.out)).mono ?_
        rintro e w3 ⟨rfl, hb3⟩
        have HB3 := Lib.hid (HB2.out.trans (hb3.mono HB2.out.size))
        have HT3 := Lib.hid (HT2.out.below hb3)
        clear hb3
        go_wp2_with fail
        refine (HSC2.out w3 (HA.out.below HB3.out)).mono ?_
        rintro e w4 ⟨A4, c4, v4, rfl, hc4, ht4, he4, hb4⟩
        have HB4 := Lib.hid (HB3.out.trans (hb4.mono HB3.out.size))
        have HT4 := Lib.hid (HT3.out.below hb4)
        have HU4 := Lib.hid ht4
        have HE4 := Lib.hid he4
        simp only at hc4 HU4 HE4
        clear hb4 ht4 he4

        go_wp2_with fail
        go_ret
        exact ⟨rfl, HB4.out⟩
      have h5' : ¬ (2048 : Int) < (S.size : Int) + 5 := by omega
      by_cases hj : 2048 < J.size
      · have hj' : (2048 : Int) < (J.size : Int) := by omega
        clear hj h5
        obtain ⟨R2, hR2⟩ : ∃ R, R = scanL (strL Y) := ⟨_, rfl⟩
        obtain ⟨R4, hR4⟩ : ∃ R, R = scanL (strL J) := ⟨_, rfl⟩
        rw [← hR2] at HSC
        rw [← hR4] at HSC2
        obtain ⟨us2, e2, p2⟩ := R2
        obtain ⟨us4, e4, p4⟩ := R4
        obtain ⟨m2, hm2⟩ : ∃ m, m = us2.length := ⟨_, rfl⟩
        obtain ⟨m4, hm4⟩ : ∃ m, m = us4.length := ⟨_, rfl⟩
        clear hR2 hR4

        go_wp2_with fail
        refine (HSC.out wr (HA.out.below HBE.out)).mono ?_
        rintro e w2 ⟨A2, c2, v2, rfl, hc2, ht2, he2, hb2⟩
        have HB2 := Lib.hid (HBE.out.trans (hb2.mono HBE.out.size))
        have HT2 := Lib.hid ht2
        have HE2 := Lib.hid he2
        simp only at hc2 HT2 HE2
        clear hb2 ht2 he2
        go_wp2_with fail
        refine (HJ.out w2 (HA.out.marks.below HB2.out) (HT.out.below HB2.out)).mono ?_
        rintro e w3 ⟨rfl, hb3⟩
        have HB3 := Lib.hid (HB2.out.trans (hb3.mono HB2.out.size))
        have HT3 := Lib.hid (HT2.out.below hb3)
        clear hb3
        go_wp2_with fail
        refine (HSC2.out w3 (HA.out.below HB3.out)).mono ?_
        rintro e w4 ⟨A4, c4, v4, rfl, hc4, ht4, he4, hb4⟩
        have HB4 := Lib.hid (HB3.out.trans (hb4.mono HB3.out.size))
        have HT4 := Lib.hid (HT3.out.below hb4)
        have HU4 := Lib.hid ht4
        have HE4 := Lib.hid he4
        simp only at hc4 HU4 HE4
        clear hb4 ht4 he4

        go_wp2_with fail
        refine (HJ.out w4 (HA.out.marks.below HB4.out) (HT.out.below HB4.out)).mono ?_
        rintro e w5 ⟨rfl, hb5⟩
        have HB5 := Lib.hid (HB4.out.trans (hb5.mono HB4.out.size))
        have HT5 := Lib.hid (HT4.out.below hb5)
        have HU5 := Lib.hid (HU4.out.below hb5)
        clear hb5

        go_wp2_with fail
        go_ret
        exact ⟨rfl, HB5.out⟩
      have hj' : ¬ (2048 : Int) < (J.size : Int) := by omega
      obtain ⟨us, hus, her⟩ := scan_blanks kf ts (by rw [HQ.out]; omega) (by rw [← HSL.out]; omega)
      obtain ⟨us2, hus2, her2⟩ := scan_join ts (by rw [HQ.out]; omega) (by rw [← HJL.out]; omega)
      rw [HTS.out, hus] at HSC
      rw [HJS.out, hus2] at HSC2
      have hl1 : us.length = q + 1 := by have := congrArg List.length her; simpa [HQ.out] using this
      have hl2 : us2.length = q + 1 := by have := congrArg List.length her2; simpa [HQ.out] using this
      obtain ⟨z, hz⟩ : ∃ z, z = q + 1 := ⟨_, rfl⟩
      rw [← hz] at hl1 hl2
      have HL1 := Lib.hid hl1
      have HL2 := Lib.hid hl2
      have HER := Lib.hid (her.trans her2.symm)
      have HZ := Lib.hid hz
      have hzq : (z : Int) = (q : Int) + 1 := by omega
      have ez : ((z : Int) != (q : Int) + 1) = false := by rw [hzq]; exact bne_self_eq_false _
      clear hus hus2 her her2 hl1 hl2 h5 hj hz hzq
      go_wp2_with fail
      refine (HSC.out wr (HA.out.below HBE.out)).mono ?_
      rintro e w2 ⟨A2, c2, v2, rfl, hc2, ht2, he2, hb2⟩
      have hv2 : v2 = .nilIface := by
        rcases he2 with ⟨_, _, h⟩ | ⟨h, _⟩ | ⟨h, _⟩
        · exact h
        · exact absurd rfl h
        · exact absurd rfl h
      subst hv2
      have HB2 := Lib.hid (HBE.out.trans (hb2.mono HBE.out.size))
      simp only at hc2 ht2
      have HT2 := Lib.hid ht2
      have hl1 := HL1.out
      rw [hl1] at hc2 ⊢
      clear hb2 ht2 he2 hl1
      go_wp2_with fail
      refine (HJ.out w2 (HA.out.marks.below HB2.out) (HT.out.below HB2.out)).mono ?_
      rintro e w3 ⟨rfl, hb3⟩
      have HB3 := Lib.hid (HB2.out.trans (hb3.mono HB2.out.size))
      have HT3 := Lib.hid (HT2.out.below hb3)
      clear hb3
      go_wp2_with fail
      refine (HSC2.out w3 (HA.out.below HB3.out)).mono ?_
      rintro e w4 ⟨A4, c4, v4, rfl, hc4, ht4, he4, hb4⟩
      have hv4 : v4 = .nilIface := by
        rcases he4 with ⟨_, _, h⟩ | ⟨h, _⟩ | ⟨h, _⟩
        · exact h
        · exact absurd rfl h
        · exact absurd rfl h
      subst hv4
      have HB4 := Lib.hid (HB3.out.trans (hb4.mono HB3.out.size))
      simp only at hc4 ht4
      have HT4 := Lib.hid (HT3.out.below hb4)
      have HU4 := Lib.hid ht4
      have hl2 := HL2.out
      rw [hl2] at hc4 ⊢
      clear hb4 ht4 he4 hl2
      go_wp2_with fail
      refine (HJ.out w4 (HA.out.marks.below HB4.out) (HT.out.below HB4.out)).mono ?_
      rintro e w5 ⟨rfl, hb5⟩
      have HB5 := Lib.hid (HB4.out.trans (hb5.mono HB4.out.size))
      have HT5 := Lib.hid (HT4.out.below hb5)
      have HU5 := Lib.hid (HU4.out.below hb5)
      clear hb5

      go_wp2_with fail
      go_loopw [14] (fun v wr => ∃ j : Nat, j ≤ q ∧ v = .int .i64 (j : Int) ∧ Below w.heap.size w wr ∧ Below w5.heap.size w5 wr) (fun v _ => q - (intOf v).toNat)
      case atStart => exact ⟨0, Nat.zero_le _, rfl, HB5.out, Below.refl _ _⟩
      case round =>
        obtain ⟨j, hjq, rfl, hbel, hbel5⟩ := hrel
        have HBF := Lib.hid hbel
        have HBG := Lib.hid hbel5
        clear hbel hbel5
        by_cases hlt : j < q
        · have h1l : j < us.length := by rw [HL1.out, HZ.out]; omega
          have h2l : j < us2.length := by rw [HL2.out, HZ.out]; omega
          have hjz : (j : Int) < (z : Int) := by rw [HZ.out]; omega
          obtain ⟨b, o, rfl, hbl, x0, x1, x2, x3⟩ := (HT5.out.below HBG.out).at h1l
          obtain ⟨b2, o2, rfl, hbl2, y0, y1, y2, y3⟩ := (HU5.out.below HBG.out).at h2l
          obtain ⟨f0, f1, f2⟩ := er_at HER.out h2l h1l
          rw [← f0] at y0
          rw [← f1] at y1
          rw [← f2] at y2
          have hj0 : (0 : Int) ≤ (j : Int) := by omega
          have hj1 : (j : Int) < (q : Int) := by omega
          obtain ⟨k0, hk⟩ : ∃ k, k = us[j].kind := ⟨_, rfl⟩
          obtain ⟨s0, hs0⟩ : ∃ k, k = us[j].text := ⟨_, rfl⟩
          obtain ⟨n0, hn0⟩ : ∃ k, k = us[j].num := ⟨_, rfl⟩
          rw [← hk] at x0 y0
          rw [← hs0] at x1 y1
          rw [← hn0] at x2 y2
          clear f0 f1 f2 hk hs0 hn0 x3 y3 h1l h2l
          go_wp2_with fail
          go_quiet (fail)
          go_wp2_with fail
          go_roundw
          case rel => exact ⟨j + 1, by omega, by go_num, below_drewN HBF.out _, below_drewN HBG.out _⟩
          case measure => simp [intOf]; omega
        · obtain rfl : j = q := by omega
          have hjj : ¬ (j : Int) < (j : Int) := by omega
          clear hlt
          go_wp2_with fail
          go_ret
          exact ⟨rfl, HBF.out⟩
end Go.Proofs.YtljdnjidphmkjaaDoor
