/- The law ScopeBack. -/
import Derived.Test.YtapalkipdmdceaaScAlive
import Derived.Test.YtapalkipdmdceaaScBackMath
import Derived.Test.YtapalkipdmdceaaScRefLess
namespace Go.Proofs.Ytapalkipdmdceaa
open Go Go.RowKit

set_option maxRecDepth 100000 in
set_option maxHeartbeats 8000000 in
theorem lawBack_any (va vb : Value) (a b : List ByteArray) (w : World) (hm : MaxLS w) (ha : RawN w va a) (hb : RawN w vb b) :
    Calls Try.prog 4 #[va, vb] w fun e w' => e = .returned (.bool true) ∧ Below w.heap.size w w' := by
  have HAL := Lib.hid (alive7_any w hm)
  have HM := Lib.hid hm
  have HRA := Lib.hid ha
  have HRB := Lib.hid hb
  have HGA := Lib.hid (fun (W : World) (hW : Below w.heap.size w W) => refGreat_any va a W (HRA.out.below hW))
  have HGB := Lib.hid (fun (W : World) (hW : Below w.heap.size w W) => refGreat_any vb b W (HRB.out.below hW))
  clear ha hb hm
  cases hga : greatN a with
  | true =>
    rw [hga] at HGA
    clear hga
    go_enter Try.func4, Try.ntmps4
    go_wp2_with (first
      | (go_at_call 5; (with_reducible refine HAL.out.mono ?_); rintro e w1 ⟨rfl, hb1⟩; have HB1 := Lib.hid hb1; clear hb1)
      | (go_at_call 6; (with_reducible refine (HGA.out _ HB1.out).mono ?_); rintro e w2 ⟨rfl, rfl⟩))
    go_ret
    exact ⟨rfl, HB1.out⟩
  | false =>
    rw [hga] at HGA
    cases hgb : greatN b with
    | true =>
      rw [hgb] at HGB
      clear hga hgb
      go_enter Try.func4, Try.ntmps4
      go_wp2_with (first
        | (go_at_call 5; (with_reducible refine HAL.out.mono ?_); rintro e w1 ⟨rfl, hb1⟩; have HB1 := Lib.hid hb1; clear hb1)
        | (go_at_call 6; (with_reducible refine (HGA.out _ HB1.out).mono ?_); rintro e w2 ⟨rfl, rfl⟩)
        | (go_at_call 6; (with_reducible refine (HGB.out _ HB1.out).mono ?_); rintro e w2 ⟨rfl, rfl⟩))
      go_ret
      exact ⟨rfl, HB1.out⟩
    | false =>
      rw [hgb] at HGB
      have HSA := Lib.hid (HRA.out.slice hga)
      have HSB := Lib.hid (HRB.out.slice hgb)
      have hla := (greatN_not hga).1
      have hlb := (greatN_not hgb).1
      have htl : (textN a).length ≤ 1000000000 := by
        have h1 := textG_len a true 1000 (greatN_not hga).2
        have h2 : a.length * (1000 + 1) ≤ 100 * 1001 := Nat.mul_le_mul hla (Nat.le_refl _)
        unfold textN; omega
      obtain ⟨B, hB⟩ : ∃ l, l = setS (a.filter (hasN b)) := ⟨_, rfl⟩
      obtain ⟨L, hL⟩ : ∃ l, l = setS (a.filter fun x => !hasN b x) := ⟨_, rfl⟩
      obtain ⟨U, hU⟩ : ∃ l, l = setS (a ++ b) := ⟨_, rfl⟩
      obtain ⟨Z, hZ⟩ : ∃ l, l = setS (a ++ []) := ⟨_, rfl⟩
      have hBl : B.length ≤ 100 := by rw [hB]; refine Nat.le_trans (length_setS_le _ []) ?_; rw [List.length_nil, Nat.zero_add]; exact Nat.le_trans (List.length_filter_le _ _) hla
      have hLl : L.length ≤ 100 := by rw [hL]; refine Nat.le_trans (length_setS_le _ []) ?_; rw [List.length_nil, Nat.zero_add]; exact Nat.le_trans (List.length_filter_le _ _) hla
      have hUl : U.length ≤ 200 := by rw [hU]; refine Nat.le_trans (length_setS_le _ []) ?_; rw [List.length_nil, Nat.zero_add, List.length_append]; omega
      have hZl : Z.length ≤ 100 := by rw [hZ]; refine Nat.le_trans (length_setS_le _ []) ?_; rw [List.length_nil, Nat.zero_add, List.append_nil]; exact hla
      have hparts : setS (B ++ L) = Z := by rw [hB, hL, hZ]; exact parts_all a b
      have hnone : setS (L.filter (hasN b)) = [] := by rw [hL]; exact less_none a b
      have hbc : setS (b.filter (hasN a)) = B := by rw [hB]; exact both_comm a b
      have hac : setS (b ++ a) = U := by rw [hU]; exact all_comm a b
      have w1 : B.all (hasN a) = true := by rw [hB]; exact both_a a b
      have w2 : B.all (hasN b) = true := by rw [hB]; exact both_b a b
      have w3 : a.all (hasN U) = true := by rw [hU]; exact a_all a b
      have w4 : b.all (hasN U) = true := by rw [hU]; exact b_all a b
      have Y0 := Lib.hid (fun (W : World) (hW : Below w.heap.size w W) => checkP_any va a W (HSA.out.below hW) (by omega))
      have YP := Lib.hid (fun (W : World) (hW : Below w.heap.size w W) => printS_any va a W (HSA.out.below hW) (by omega) htl)
      have Y1 := Lib.hid (fun (W : World) (hW : Below w.heap.size w W) => hB ▸ both_any va vb a b W (HSA.out.below hW) (HSB.out.below hW) (by omega) (by omega))
      have Y2 := Lib.hid (fun (W : World) (hW : Below w.heap.size w W) => hL ▸ less_any va vb a b W (HSA.out.below hW) (HSB.out.below hW) (by omega) (by omega))
      have Y3 := Lib.hid (fun (W : World) (hW : Below w.heap.size w W) => hU ▸ all_any va vb a b W (HSA.out.below hW) (HSB.out.below hW) (by omega))
      have Y4 := Lib.hid (fun (W : World) (v : Value) (hW : Below w.heap.size w W) (hv : SliceN W v B) => w1 ▸ within_any v va B a W hv (HSA.out.below hW) (by omega) (by omega))
      have Y5 := Lib.hid (fun (W : World) (v : Value) (hW : Below w.heap.size w W) (hv : SliceN W v B) => w2 ▸ within_any v vb B b W hv (HSB.out.below hW) (by omega) (by omega))
      have Y6 := Lib.hid (fun (W : World) (v : Value) (hW : Below w.heap.size w W) (hv : SliceN W v U) => w3 ▸ within_any va v a U W (HSA.out.below hW) hv (by omega) (by omega))
      have Y7 := Lib.hid (fun (W : World) (v : Value) (hW : Below w.heap.size w W) (hv : SliceN W v U) => w4 ▸ within_any vb v b U W (HSB.out.below hW) hv (by omega) (by omega))
      have Y8 := Lib.hid (fun (W : World) (u v : Value) (hu : SliceN W u B) (hv : SliceN W v L) => hparts ▸ all_any u v B L W hu hv (by omega))
      have Y9 := Lib.hid (fun (W : World) (hW : Below w.heap.size w W) => hZ ▸ all_any va (.slice none 0 0) a [] W (HSA.out.below hW) (SliceN.nil W) (by simp; omega))
      have Y10 := Lib.hid (fun (W : World) (v : Value) (hW : Below w.heap.size w W) (hv : SliceN W v L) => hnone ▸ both_any v vb L b W hv (HSB.out.below hW) (by omega) (by omega))
      have Y11 := Lib.hid (fun (W : World) (hW : Below w.heap.size w W) => hbc ▸ both_any vb va b a W (HSB.out.below hW) (HSA.out.below hW) (by omega) (by omega))
      have Y12 := Lib.hid (fun (W : World) (hW : Below w.heap.size w W) => hac ▸ all_any vb va b a W (HSB.out.below hW) (HSA.out.below hW) (by omega))
      have HSAME := Lib.hid (fun (W W1 : World) (u v : Value) (l : List ByteArray) (h1 : SliceN W1 u l) (hb : Below W1.heap.size W1 W) (h2 : SliceN W v l) (hl : l.length ≤ 1000000000) => (sameN_self l) ▸ refSame_any u v l l W (h1.below hb) h2 hl hl)
      have HBL := Lib.hid hBl
      have HUL := Lib.hid hUl
      have HZL := Lib.hid hZl
      have HAL2 := Lib.hid hla
      cases hck : checkN a with
      | true =>
        rw [hck, show SErr true = .nilIface from rfl] at Y0
        obtain ⟨k1, k2, k3⟩ := back_text hck
        have YQ := Lib.hid (fun (W : World) (hW : Below w.heap.size w W) => (parseS_any (toS (textN a)) W (HM.out.below hW) k3).mono (R' := fun e w' => ∃ v, e = .returned (.tuple #[v, .nilIface]) ∧ SliceN w' v a ∧ Below W.heap.size W w') (by
          rintro e w' ⟨v, rfl, hs, hb⟩
          exact ⟨v, by rw [k1]; rfl, by rw [← k2]; exact hs, hb⟩))
        have YS := Lib.hid (fun (W : World) (v : Value) (hW : Below w.heap.size w W) (hv : SliceN W v a) => (sameN_self a) ▸ refSame_any v va a a W hv (HSA.out.below hW) (by have := HAL2.out; omega) (by have := HAL2.out; omega))
        clear hck k1 k2 k3 HSA hga hgb HSB HRA HRB hla hlb htl hB hL hU hZ hBl hLl hUl hZl hparts hnone hbc hac w1 w2 w3 w4
        go_enter Try.func4, Try.ntmps4
        go_wp2_with (first
          | (go_at_call 5; (with_reducible refine HAL.out.mono ?_); rintro e w1 ⟨rfl, hb1⟩; have HB1 := Lib.hid hb1; clear hb1)
          | (go_at_call 6; (with_reducible refine (HGA.out _ HB1.out).mono ?_); rintro e wx ⟨rfl, rfl⟩)
          | (go_at_call 6; (with_reducible refine (HGB.out _ HB1.out).mono ?_); rintro e wx ⟨rfl, rfl⟩)
          | (go_at_call 18; (with_reducible refine (Y0.out _ HB1.out).mono ?_); rintro e wx ⟨rfl, rfl⟩)
          | (go_at_call 20; (with_reducible refine (YP.out _ HB1.out).mono ?_); rintro e w2 ⟨rfl, hb2⟩; have HB2 := Lib.hid (HB1.out.trans (hb2.mono HB1.out.size)); clear hb2)
          | (go_at_call 19; (with_reducible refine (YQ.out _ HB2.out).mono ?_); rintro e w3 ⟨v3, rfl, hs3, hb3⟩; have HB3 := Lib.hid (HB2.out.trans (hb3.mono HB2.out.size)); have HQ3 := Lib.hid (YS.out _ v3 HB3.out hs3); clear hs3; clear hb3)
          | (go_at_call 11; (with_reducible refine (HQ3.out).mono ?_); rintro e w4 ⟨rfl, hb4⟩; have HB4 := Lib.hid (HB3.out.trans (hb4.mono HB3.out.size)); clear hb4)
          | (go_at_call 12; (with_reducible refine (Y1.out _ HB4.out).mono ?_); rintro e w5 ⟨v5, rfl, hs5, hb5⟩; have HB5 := Lib.hid (HB4.out.trans (hb5.mono HB4.out.size)); have HS5 := Lib.hid hs5; clear hs5; clear hb5)
          | (go_at_call 16; (with_reducible refine (Y2.out _ HB5.out).mono ?_); rintro e w6 ⟨v6, rfl, hs6, hb6⟩; have HB6 := Lib.hid (HB5.out.trans (hb6.mono HB5.out.size)); have HS5 := Lib.hid (HS5.out.below hb6); have HS6 := Lib.hid hs6; clear hs6; clear hb6)
          | (go_at_call 14; (with_reducible refine (Y3.out _ HB6.out).mono ?_); rintro e w7 ⟨v7, rfl, hs7, hb7⟩; have HB7 := Lib.hid (HB6.out.trans (hb7.mono HB6.out.size)); have HS5 := Lib.hid (HS5.out.below hb7); have HS6 := Lib.hid (HS6.out.below hb7); have HS7 := Lib.hid hs7; clear hs7; clear hb7)
          | (go_at_call 9; (with_reducible refine (Y4.out _ v5 HB7.out HS5.out).mono ?_); rintro e w8 ⟨rfl, hb8⟩; have HB8 := Lib.hid (HB7.out.trans (hb8.mono HB7.out.size)); have HS5 := Lib.hid (HS5.out.below hb8); have HS6 := Lib.hid (HS6.out.below hb8); have HS7 := Lib.hid (HS7.out.below hb8); clear hb8)
          | (go_at_call 9; (with_reducible refine (Y5.out _ v5 HB8.out HS5.out).mono ?_); rintro e w9 ⟨rfl, hb9⟩; have HB9 := Lib.hid (HB8.out.trans (hb9.mono HB8.out.size)); have HS5 := Lib.hid (HS5.out.below hb9); have HS6 := Lib.hid (HS6.out.below hb9); have HS7 := Lib.hid (HS7.out.below hb9); clear hb9)
          | (go_at_call 9; (with_reducible refine (Y6.out _ v7 HB9.out HS7.out).mono ?_); rintro e w10 ⟨rfl, hb10⟩; have HB10 := Lib.hid (HB9.out.trans (hb10.mono HB9.out.size)); have HS5 := Lib.hid (HS5.out.below hb10); have HS6 := Lib.hid (HS6.out.below hb10); have HS7 := Lib.hid (HS7.out.below hb10); clear hb10)
          | (go_at_call 9; (with_reducible refine (Y7.out _ v7 HB10.out HS7.out).mono ?_); rintro e w11 ⟨rfl, hb11⟩; have HB11 := Lib.hid (HB10.out.trans (hb11.mono HB10.out.size)); have HS5 := Lib.hid (HS5.out.below hb11); have HS6 := Lib.hid (HS6.out.below hb11); have HS7 := Lib.hid (HS7.out.below hb11); clear hb11)
          | (go_at_call 14; (with_reducible refine (Y8.out _ v5 v6 HS5.out HS6.out).mono ?_); rintro e w12 ⟨v12, rfl, hs12, hb12⟩; have HB12 := Lib.hid (HB11.out.trans (hb12.mono HB11.out.size)); have HS5 := Lib.hid (HS5.out.below hb12); have HS6 := Lib.hid (HS6.out.below hb12); have HS7 := Lib.hid (HS7.out.below hb12); have HS12 := Lib.hid hs12; clear hs12; clear hb12)
          | (go_at_call 14; (with_reducible refine (Y9.out _ HB12.out).mono ?_); rintro e w13 ⟨v13, rfl, hs13, hb13⟩; have HB13 := Lib.hid (HB12.out.trans (hb13.mono HB12.out.size)); have HS5 := Lib.hid (HS5.out.below hb13); have HS6 := Lib.hid (HS6.out.below hb13); have HS7 := Lib.hid (HS7.out.below hb13); have HQ13 := Lib.hid (HSAME.out w13 w12 v12 v13 Z HS12.out hb13 hs13 (by have := HZL.out; omega)); clear hs13; clear hb13)
          | (go_at_call 11; (with_reducible refine (HQ13.out).mono ?_); rintro e w14 ⟨rfl, hb14⟩; have HB14 := Lib.hid (HB13.out.trans (hb14.mono HB13.out.size)); have HS5 := Lib.hid (HS5.out.below hb14); have HS6 := Lib.hid (HS6.out.below hb14); have HS7 := Lib.hid (HS7.out.below hb14); clear hb14)
          | (go_at_call 12; (with_reducible refine (Y10.out _ v6 HB14.out HS6.out).mono ?_); rintro e w15 ⟨v15, rfl, ⟨A15, c15, rfl, -⟩, hb15⟩; have HB15 := Lib.hid (HB14.out.trans (hb15.mono HB14.out.size)); have HS5 := Lib.hid (HS5.out.below hb15); have HS6 := Lib.hid (HS6.out.below hb15); have HS7 := Lib.hid (HS7.out.below hb15); clear hb15)
          | (go_at_call 12; (with_reducible refine (Y11.out _ HB15.out).mono ?_); rintro e w16 ⟨v16, rfl, hs16, hb16⟩; have HB16 := Lib.hid (HB15.out.trans (hb16.mono HB15.out.size)); have HS5 := Lib.hid (HS5.out.below hb16); have HS6 := Lib.hid (HS6.out.below hb16); have HS7 := Lib.hid (HS7.out.below hb16); have HQ16 := Lib.hid (HSAME.out w16 w16 v5 v16 B HS5.out (Below.refl _ _) hs16 (by have := HBL.out; omega)); clear hs16; clear hb16)
          | (go_at_call 11; (with_reducible refine (HQ16.out).mono ?_); rintro e w17 ⟨rfl, hb17⟩; have HB17 := Lib.hid (HB16.out.trans (hb17.mono HB16.out.size)); have HS5 := Lib.hid (HS5.out.below hb17); have HS6 := Lib.hid (HS6.out.below hb17); have HS7 := Lib.hid (HS7.out.below hb17); clear hb17)
          | (go_at_call 14; (with_reducible refine (Y12.out _ HB17.out).mono ?_); rintro e w18 ⟨v18, rfl, hs18, hb18⟩; have HB18 := Lib.hid (HB17.out.trans (hb18.mono HB17.out.size)); have HS5 := Lib.hid (HS5.out.below hb18); have HS6 := Lib.hid (HS6.out.below hb18); have HS7 := Lib.hid (HS7.out.below hb18); have HQ18 := Lib.hid (HSAME.out w18 w18 v7 v18 U HS7.out (Below.refl _ _) hs18 (by have := HUL.out; omega)); clear hs18; clear hb18)
          | (go_at_call 11; (with_reducible refine (HQ18.out).mono ?_); rintro e w19 ⟨rfl, hb19⟩; have HB19 := Lib.hid (HB18.out.trans (hb19.mono HB18.out.size)); clear hb19))
        go_ret
        exact ⟨rfl, HB19.out⟩
      | false =>
        rw [hck, show SErr false = .iface 39 (.int .i64 70) from rfl] at Y0
        clear hck HSA hga hgb HSB HRA HRB hla hlb htl hB hL hU hZ hBl hLl hUl hZl hparts hnone hbc hac w1 w2 w3 w4
        go_enter Try.func4, Try.ntmps4
        go_wp2_with (first
          | (go_at_call 5; (with_reducible refine HAL.out.mono ?_); rintro e w1 ⟨rfl, hb1⟩; have HB1 := Lib.hid hb1; clear hb1)
          | (go_at_call 6; (with_reducible refine (HGA.out _ HB1.out).mono ?_); rintro e wx ⟨rfl, rfl⟩)
          | (go_at_call 6; (with_reducible refine (HGB.out _ HB1.out).mono ?_); rintro e wx ⟨rfl, rfl⟩)
          | (go_at_call 18; (with_reducible refine (Y0.out _ HB1.out).mono ?_); rintro e wx ⟨rfl, rfl⟩)
          | (go_at_call 12; (with_reducible refine (Y1.out _ HB1.out).mono ?_); rintro e w5 ⟨v5, rfl, hs5, hb5⟩; have HB5 := Lib.hid (HB1.out.trans (hb5.mono HB1.out.size)); have HS5 := Lib.hid hs5; clear hs5; clear hb5)
          | (go_at_call 16; (with_reducible refine (Y2.out _ HB5.out).mono ?_); rintro e w6 ⟨v6, rfl, hs6, hb6⟩; have HB6 := Lib.hid (HB5.out.trans (hb6.mono HB5.out.size)); have HS5 := Lib.hid (HS5.out.below hb6); have HS6 := Lib.hid hs6; clear hs6; clear hb6)
          | (go_at_call 14; (with_reducible refine (Y3.out _ HB6.out).mono ?_); rintro e w7 ⟨v7, rfl, hs7, hb7⟩; have HB7 := Lib.hid (HB6.out.trans (hb7.mono HB6.out.size)); have HS5 := Lib.hid (HS5.out.below hb7); have HS6 := Lib.hid (HS6.out.below hb7); have HS7 := Lib.hid hs7; clear hs7; clear hb7)
          | (go_at_call 9; (with_reducible refine (Y4.out _ v5 HB7.out HS5.out).mono ?_); rintro e w8 ⟨rfl, hb8⟩; have HB8 := Lib.hid (HB7.out.trans (hb8.mono HB7.out.size)); have HS5 := Lib.hid (HS5.out.below hb8); have HS6 := Lib.hid (HS6.out.below hb8); have HS7 := Lib.hid (HS7.out.below hb8); clear hb8)
          | (go_at_call 9; (with_reducible refine (Y5.out _ v5 HB8.out HS5.out).mono ?_); rintro e w9 ⟨rfl, hb9⟩; have HB9 := Lib.hid (HB8.out.trans (hb9.mono HB8.out.size)); have HS5 := Lib.hid (HS5.out.below hb9); have HS6 := Lib.hid (HS6.out.below hb9); have HS7 := Lib.hid (HS7.out.below hb9); clear hb9)
          | (go_at_call 9; (with_reducible refine (Y6.out _ v7 HB9.out HS7.out).mono ?_); rintro e w10 ⟨rfl, hb10⟩; have HB10 := Lib.hid (HB9.out.trans (hb10.mono HB9.out.size)); have HS5 := Lib.hid (HS5.out.below hb10); have HS6 := Lib.hid (HS6.out.below hb10); have HS7 := Lib.hid (HS7.out.below hb10); clear hb10)
          | (go_at_call 9; (with_reducible refine (Y7.out _ v7 HB10.out HS7.out).mono ?_); rintro e w11 ⟨rfl, hb11⟩; have HB11 := Lib.hid (HB10.out.trans (hb11.mono HB10.out.size)); have HS5 := Lib.hid (HS5.out.below hb11); have HS6 := Lib.hid (HS6.out.below hb11); have HS7 := Lib.hid (HS7.out.below hb11); clear hb11)
          | (go_at_call 14; (with_reducible refine (Y8.out _ v5 v6 HS5.out HS6.out).mono ?_); rintro e w12 ⟨v12, rfl, hs12, hb12⟩; have HB12 := Lib.hid (HB11.out.trans (hb12.mono HB11.out.size)); have HS5 := Lib.hid (HS5.out.below hb12); have HS6 := Lib.hid (HS6.out.below hb12); have HS7 := Lib.hid (HS7.out.below hb12); have HS12 := Lib.hid hs12; clear hs12; clear hb12)
          | (go_at_call 14; (with_reducible refine (Y9.out _ HB12.out).mono ?_); rintro e w13 ⟨v13, rfl, hs13, hb13⟩; have HB13 := Lib.hid (HB12.out.trans (hb13.mono HB12.out.size)); have HS5 := Lib.hid (HS5.out.below hb13); have HS6 := Lib.hid (HS6.out.below hb13); have HS7 := Lib.hid (HS7.out.below hb13); have HQ13 := Lib.hid (HSAME.out w13 w12 v12 v13 Z HS12.out hb13 hs13 (by have := HZL.out; omega)); clear hs13; clear hb13)
          | (go_at_call 11; (with_reducible refine (HQ13.out).mono ?_); rintro e w14 ⟨rfl, hb14⟩; have HB14 := Lib.hid (HB13.out.trans (hb14.mono HB13.out.size)); have HS5 := Lib.hid (HS5.out.below hb14); have HS6 := Lib.hid (HS6.out.below hb14); have HS7 := Lib.hid (HS7.out.below hb14); clear hb14)
          | (go_at_call 12; (with_reducible refine (Y10.out _ v6 HB14.out HS6.out).mono ?_); rintro e w15 ⟨v15, rfl, ⟨A15, c15, rfl, -⟩, hb15⟩; have HB15 := Lib.hid (HB14.out.trans (hb15.mono HB14.out.size)); have HS5 := Lib.hid (HS5.out.below hb15); have HS6 := Lib.hid (HS6.out.below hb15); have HS7 := Lib.hid (HS7.out.below hb15); clear hb15)
          | (go_at_call 12; (with_reducible refine (Y11.out _ HB15.out).mono ?_); rintro e w16 ⟨v16, rfl, hs16, hb16⟩; have HB16 := Lib.hid (HB15.out.trans (hb16.mono HB15.out.size)); have HS5 := Lib.hid (HS5.out.below hb16); have HS6 := Lib.hid (HS6.out.below hb16); have HS7 := Lib.hid (HS7.out.below hb16); have HQ16 := Lib.hid (HSAME.out w16 w16 v5 v16 B HS5.out (Below.refl _ _) hs16 (by have := HBL.out; omega)); clear hs16; clear hb16)
          | (go_at_call 11; (with_reducible refine (HQ16.out).mono ?_); rintro e w17 ⟨rfl, hb17⟩; have HB17 := Lib.hid (HB16.out.trans (hb17.mono HB16.out.size)); have HS5 := Lib.hid (HS5.out.below hb17); have HS6 := Lib.hid (HS6.out.below hb17); have HS7 := Lib.hid (HS7.out.below hb17); clear hb17)
          | (go_at_call 14; (with_reducible refine (Y12.out _ HB17.out).mono ?_); rintro e w18 ⟨v18, rfl, hs18, hb18⟩; have HB18 := Lib.hid (HB17.out.trans (hb18.mono HB17.out.size)); have HS5 := Lib.hid (HS5.out.below hb18); have HS6 := Lib.hid (HS6.out.below hb18); have HS7 := Lib.hid (HS7.out.below hb18); have HQ18 := Lib.hid (HSAME.out w18 w18 v7 v18 U HS7.out (Below.refl _ _) hs18 (by have := HUL.out; omega)); clear hs18; clear hb18)
          | (go_at_call 11; (with_reducible refine (HQ18.out).mono ?_); rintro e w19 ⟨rfl, hb19⟩; have HB19 := Lib.hid (HB18.out.trans (hb19.mono HB18.out.size)); clear hb19))
        go_ret
        exact ⟨rfl, HB19.out⟩
end Go.Proofs.Ytapalkipdmdceaa
