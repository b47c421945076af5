/- LxLawP: merged. -/
import Derived.Test.YtljdnjidphmkjaaDoorLx22
import Derived.Test.YtljdnjidphmkjaaDoorLx27
set_option linter.all false
namespace Go.Proofs.YtljdnjidphmkjaaDoor
open Go Go.RowKit
/-- Tokens that Go can hold. -/
def TokOk (ts : List TokM) : Prop := ∀ t ∈ ts, t.text.size ≤ 9223372036854775807 ∧ -9223372036854775808 ≤ t.num ∧ t.num ≤ 9223372036854775807
set_option maxRecDepth 100000 in
set_option maxHeartbeats 8000000 in
theorem lexSpells_any (ts : List TokM) (A : Option Addr) (n c : Nat) (s : ByteArray) (w : World) (h : Ask11 w) (hn : ts.length = n) (hnc : n ≤ c) (hn9 : n ≤ 9223372036854775807) (hok : TokOk ts) (ht : ToksAt w A ts) (hs : s.size ≤ 9223372036854775807) :
    Calls Tryd.prog 4 #[.slice A n c, .string s] w fun e w' => e = .returned (.bool true) ∧ Below w.heap.size w w' := by
  have HA := Lib.hid h
  have HAL := Lib.hid (alive11_any w h.marks h.max)
  have HT := Lib.hid ht
  have HN := Lib.hid hn
  have HOK := Lib.hid hok
  clear h ht hn hok
  by_cases h6 : 600 < n
  · have c1 : (600 : Int) < (n : Int) := by omega
    go_enter Tryd.func4, Tryd.ntmps4
    go_wp2_with fail
    refine HAL.out.mono ?_
    rintro e w1 ⟨rfl, hb1⟩
    have HB1 := Lib.hid hb1
    clear hb1
    go_wp2_with fail
    go_ret
    exact ⟨rfl, HB1.out⟩
  have c1 : ¬ (600 : Int) < (n : Int) := by omega
  by_cases h3 : 3000 < s.size
  · have c2 : (3000 : Int) < (s.size : Int) := by omega
    go_enter Tryd.func4, Tryd.ntmps4
    go_wp2_with fail
    refine HAL.out.mono ?_
    rintro e w1 ⟨rfl, hb1⟩
    have HB1 := Lib.hid hb1
    clear hb1
    go_wp2_with fail
    go_ret
    exact ⟨rfl, HB1.out⟩
  have c2 : ¬ (3000 : Int) < (s.size : Int) := by omega
  go_enter Tryd.func4, Tryd.ntmps4
  go_wp2_with fail
  refine HAL.out.mono ?_
  rintro e w1 ⟨rfl, hb1⟩
  have HB1 := Lib.hid hb1
  clear hb1
  go_wp2_with fail
  go_loopw [5] (fun v wr => ∃ i : Nat, i ≤ n ∧ v = .int .i64 (i : Int) ∧ Hid (∀ t ∈ ts.take i, t.text.size ≤ 3000) ∧ Below w.heap.size w wr) (fun v _ => n - (intOf v).toNat)
  case atStart => exact ⟨0, Nat.zero_le _, rfl, Lib.hid (fun t h => by simp at h), HB1.out⟩
  case round =>
    obtain ⟨i, hi, rfl, HH, hbel⟩ := hrel
    have HBE := Lib.hid hbel
    clear hbel
    by_cases hlt : i < n
    · have hjl : i < ts.length := by rw [HN.out]; exact hlt
      obtain ⟨b, o, rfl, hbl, x0, x1, x2, x3⟩ := (HT.out.below HBE.out).at hjl
      have hi0' : (0 : Int) ≤ (i : Int) := by omega
      have hi1' : (i : Int) < (n : Int) := by omega
      have htk : ts.take (i + 1) = ts.take i ++ [ts[i]] := by rw [List.take_succ_eq_append_getElem hjl]
      obtain ⟨q1, q2, q3⟩ := HOK.out ts[i] (List.getElem_mem hjl)
      have HLP := Lib.hid (fun (hz : ts[i].text.size ≤ 3000) (W : World) (hW : Marks W) => lexSpell_any ts[i].kind ts[i].num ts[i].pos ts[i].text W hW (by omega) ⟨q2, q3⟩)
      have HRP := Lib.hid (fun (hz : ts[i].text.size ≤ 3000) (W : World) => refSpell_any ts[i].kind ts[i].num ts[i].pos ts[i].text W (by omega) ⟨q2, q3⟩)
      obtain ⟨X, hX⟩ : ∃ X, X = toS (spellN ts[i]) := ⟨_, rfl⟩
      have HLP2 := Lib.hid (fun (hz : ts[i].text.size ≤ 3000) (W : World) (hW : Marks W) => show Calls Tryd.prog 13 #[tokV ts[i].kind ts[i].text ts[i].num ts[i].pos] W fun e w' => e = .returned (.string X) ∧ Below W.heap.size W w' by rw [hX]; exact HLP.out hz W hW)
      have HRP2 := Lib.hid (fun (hz : ts[i].text.size ≤ 3000) (W : World) => show Calls Tryd.prog 14 #[tokV ts[i].kind ts[i].text ts[i].num ts[i].pos] W fun e w' => e = .returned (.string X) ∧ Below W.heap.size W w' by rw [hX]; exact HRP.out hz W)
      have HTK : Hid (ts[i].text.size ≤ 3000 → ∀ t ∈ ts.take (i + 1), t.text.size ≤ 3000) := Lib.hid fun hz t ht => by
        rw [htk] at ht
        rcases List.mem_append.1 ht with ht | ht
        · exact HH.out t ht
        · rw [List.mem_singleton.1 ht]; exact hz
      obtain ⟨t, ht⟩ : ∃ t, t = ts[i] := ⟨_, rfl⟩
      rw [← ht] at x0 x1 x2 x3 HLP2 HRP2 HTK q1
      obtain ⟨k0, s0, n0, p0⟩ := t
      simp only at x0 x1 x2 x3 HLP2 HRP2 HTK q1
      clear ht htk hjl HLP HRP hX q2 q3
      by_cases hz : 3000 < s0.size
      · have c3 : (3000 : Int) < (s0.size : Int) := by omega
        clear HLP2 HRP2 HTK hz
        go_wp2_with fail
        go_ret
        exact ⟨rfl, HBE.out⟩
      · have c3 : ¬ (3000 : Int) < (s0.size : Int) := by omega
        have HLQ := Lib.hid (HLP2.out (by omega))
        have HRQ := Lib.hid (HRP2.out (by omega))
        have HTK2 := Lib.hid (HTK.out (by omega))
        clear HLP2 HRP2 HTK hz
        go_wp2_with fail
        refine wp_region_held_drew (S := fun X => X.cell? ⟨b, o + i * 4, none⟩ = some (.int .i64 k0) ∧ X.cell? ⟨b, o + i * 4 + 1, none⟩ = some (.string s0) ∧ X.cell? ⟨b, o + i * 4 + 2, none⟩ = some (.int .i64 n0) ∧ X.cell? ⟨b, o + i * 4 + 3, none⟩ = some (.int .i64 p0)) (by kernel_rfl) ⟨x0, x1, x2, x3⟩ (fun hHeld => ?_)
        refine rgT 0 ?_
        try simp only [rgS]
        refine rgT 1 ?_
        try simp only [rgS]
        refine rgT 2 ?_
        try simp only [rgS]
        refine rgT 3 ?_
        try simp only [rgS]
        refine rgT 5 ?_
        try simp only [rgS]
        refine rgT 6 ?_
        try simp only [rgS]
        refine rgT 7 ?_
        try simp only [rgS]
        refine rgT 8 ?_
        try simp only [rgS]
        refine rgO 4 (fun K hK => ?_)
        go_simp
        (with_reducible refine (HLQ.out _ (HA.out.marks.below HBE.out.drew)).mono ?_)
        rintro e w3 ⟨rfl, hb3⟩
        have HB3 := Lib.hid (show Below wr.heap.size wr w3 from (Below.refl _ wr).drew.trans hb3)
        have hS3 : w3.cell? ⟨b, o + i * 4, none⟩ = some (.int .i64 k0) ∧ w3.cell? ⟨b, o + i * 4 + 1, none⟩ = some (.string s0) ∧ w3.cell? ⟨b, o + i * 4 + 2, none⟩ = some (.int .i64 n0) ∧ w3.cell? ⟨b, o + i * 4 + 3, none⟩ = some (.int .i64 p0) := ⟨(HB3.out.cell (p := ⟨b, o + i * 4, none⟩) hbl).trans x0, (HB3.out.cell (p := ⟨b, o + i * 4 + 1, none⟩) hbl).trans x1, (HB3.out.cell (p := ⟨b, o + i * 4 + 2, none⟩) hbl).trans x2, (HB3.out.cell (p := ⟨b, o + i * 4 + 3, none⟩) hbl).trans x3⟩
        refine hK.out _ _ hS3 (fun hH3 => ?_)
        clear hK K hHeld hb3
        try simp only [rgS]
        refine rgO 9 (fun K hK => ?_)
        go_simp
        (with_reducible refine (HRQ.out _).mono ?_)
        rintro e w4 ⟨rfl, hb4⟩
        have HB4 := Lib.hid (show Below wr.heap.size wr w4 from HB3.out.trans (hb4.mono HB3.out.size))
        have hS4 : w4.cell? ⟨b, o + i * 4, none⟩ = some (.int .i64 k0) ∧ w4.cell? ⟨b, o + i * 4 + 1, none⟩ = some (.string s0) ∧ w4.cell? ⟨b, o + i * 4 + 2, none⟩ = some (.int .i64 n0) ∧ w4.cell? ⟨b, o + i * 4 + 3, none⟩ = some (.int .i64 p0) := ⟨(HB4.out.cell (p := ⟨b, o + i * 4, none⟩) hbl).trans x0, (HB4.out.cell (p := ⟨b, o + i * 4 + 1, none⟩) hbl).trans x1, (HB4.out.cell (p := ⟨b, o + i * 4 + 2, none⟩) hbl).trans x2, (HB4.out.cell (p := ⟨b, o + i * 4 + 3, none⟩) hbl).trans x3⟩
        refine hK.out _ _ hS4 (fun hH4 => ?_)
        clear hK K hH3 hb4
        try simp only [rgS]
        refine rgT 10 ?_
        try simp only [rgS]
        refine wpAnyH_done (by kernel_rfl) ?_ _
        have HBB := Lib.hid (HBE.out.trans (HB4.out.mono HBE.out.size))
        go_wp2_with fail
        go_roundw
        case rel => exact ⟨i + 1, by omega, by go_num, HTK2, HBB.out⟩
        case measure => simp [intOf]; omega
    · obtain rfl : i = n := by omega
      have hall : ts.take i = ts := by rw [← HN.out]; exact List.take_length
      rw [hall] at HH
      have HSM : Hid (smallT ts) := Lib.hid fun t ht => ⟨by have := HH.out t ht; omega, (HOK.out t ht).2⟩
      have hi1' : ¬ (i : Int) < (i : Int) := by omega
      have HQ := Lib.hid (fun (W : World) (hW : Marks W) => quoteB_any s W hW (by omega))
      have HQR := Lib.hid (fun W : World => refQuoteX_any s W (by omega))
      obtain ⟨U, hU⟩ : ∃ U, U = toS (quoteN (strL s)).1 := ⟨_, rfl⟩
      obtain ⟨u, hu⟩ : ∃ u, u = (quoteN (strL s)).2 := ⟨_, rfl⟩
      rw [← hU, ← hu] at HQ HQR
      have HJ := Lib.hid (fun (W : World) (hW : Marks W) (hl : ToksAt W A ts) => lexJoin_any A ts i c W hW HN.out (by omega) hl HSM.out)
      have HJR := Lib.hid (fun (W : World) (hl : ToksAt W A ts) => refJoin_any A ts i c W HN.out (by omega) hl HSM.out)
      obtain ⟨J, hJ⟩ : ∃ J, J = toS (joinN ts) := ⟨_, rfl⟩
      rw [← hJ] at HJ HJR
      clear hall HH hU hu hJ hlt
      go_wp2_with fail
      refine (HQ.out _ (HA.out.marks.below HBE.out)).mono ?_
      rintro e w2 ⟨rfl, hb2⟩
      have HB2 := Lib.hid (HBE.out.trans (hb2.mono HBE.out.size))
      clear hb2
      go_wp2_with fail
      refine (HQR.out _).mono ?_
      rintro e w3 ⟨rfl, hb3⟩
      have HB3 := Lib.hid (HB2.out.trans (hb3.mono HB2.out.size))
      clear hb3
      go_wp2_with fail
      refine (HJ.out _ (HA.out.marks.below HB3.out) (HT.out.below HB3.out)).mono ?_
      rintro e w4 ⟨rfl, hb4⟩
      have HB4 := Lib.hid (HB3.out.trans (hb4.mono HB3.out.size))
      clear hb4
      go_wp2_with fail
      refine (HJR.out _ (HT.out.below HB4.out)).mono ?_
      rintro e w5 ⟨rfl, hb5⟩
      have HB5 := Lib.hid (HB4.out.trans (hb5.mono HB4.out.size))
      clear hb5
      go_wp2_with fail
      go_ret
      exact ⟨rfl, HB5.out⟩
end Go.Proofs.YtljdnjidphmkjaaDoor
