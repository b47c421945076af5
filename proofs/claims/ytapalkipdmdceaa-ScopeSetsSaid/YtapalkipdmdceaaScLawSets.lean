/- The law ScopeSets. -/
import Derived.Test.YtapalkipdmdceaaScAlive
import Derived.Test.YtapalkipdmdceaaScLess
import Derived.Test.YtapalkipdmdceaaScRefLess
namespace Go.Proofs.Ytapalkipdmdceaa
open Go Go.RowKit

set_option maxRecDepth 100000 in
set_option maxHeartbeats 4000000 in
theorem lawSets_any (va vb : Value) (a b : List ByteArray) (nm : ByteArray) (w : World) (hm : MaxLS w) (ha : RawN w va a) (hb : RawN w vb b) :
    Calls Try.prog 3 #[va, vb, .string nm] w fun e w' => e = .returned (.bool true) ∧ Below w.heap.size w w' := by
  have HAL := Lib.hid (alive7_any w hm)
  have HRA := Lib.hid ha
  have HRB := Lib.hid hb
  have HGA := Lib.hid (fun (W : World) (hW : Below w.heap.size w W) => refGreat_any va a W (HRA.out.below hW))
  have HGB := Lib.hid (fun (W : World) (hW : Below w.heap.size w W) => refGreat_any vb b W (HRB.out.below hW))
  clear ha hb hm
  cases hga : greatN a with
  | true =>
    rw [hga] at HGA
    clear hga
    go_enter Try.func3, Try.ntmps3
    go_wp2_with (first
      | (go_at_call 5; (with_reducible refine HAL.out.mono ?_); rintro e w1 ⟨rfl, hb1⟩; have HB1 := Lib.hid hb1; clear hb1)
      | (go_at_call 6; (with_reducible refine (HGA.out _ HB1.out).mono ?_); rintro e w2 ⟨rfl, rfl⟩))
    go_ret
    exact ⟨rfl, HB1.out⟩
  | false =>
    rw [hga] at HGA
    cases hgb : greatN b with
    | true =>
      rw [hgb] at HGB
      clear hga hgb
      go_enter Try.func3, Try.ntmps3
      go_wp2_with (first
        | (go_at_call 5; (with_reducible refine HAL.out.mono ?_); rintro e w1 ⟨rfl, hb1⟩; have HB1 := Lib.hid hb1; clear hb1)
        | (go_at_call 6; (with_reducible refine (HGA.out _ HB1.out).mono ?_); rintro e w2 ⟨rfl, rfl⟩)
        | (go_at_call 6; (with_reducible refine (HGB.out _ HB1.out).mono ?_); rintro e w2 ⟨rfl, rfl⟩))
      go_ret
      exact ⟨rfl, HB1.out⟩
    | false =>
      rw [hgb] at HGB
      have HSA := Lib.hid (HRA.out.slice hga)
      have HSB := Lib.hid (HRB.out.slice hgb)
      have hla := (greatN_not hga).1
      have hlb := (greatN_not hgb).1
      have X1 := Lib.hid (fun (W : World) (hW : Below w.heap.size w W) => hasP_any va a nm W (HSA.out.below hW) (by omega))
      have X2 := Lib.hid (fun (W : World) (hW : Below w.heap.size w W) => refHas_any va a nm W (HSA.out.below hW) (by omega))
      have X3 := Lib.hid (fun (W : World) (hW : Below w.heap.size w W) => within_any va vb a b W (HSA.out.below hW) (HSB.out.below hW) (by omega) (by omega))
      have X4 := Lib.hid (fun (W : World) (hW : Below w.heap.size w W) => refWithin_any va vb a b W (HSA.out.below hW) (HSB.out.below hW) (by omega) (by omega))
      have X5 := Lib.hid (fun (W : World) (hW : Below w.heap.size w W) => both_any va vb a b W (HSA.out.below hW) (HSB.out.below hW) (by omega) (by omega))
      have X6 := Lib.hid (fun (W : World) (hW : Below w.heap.size w W) => refBoth_any va vb a b W (HSA.out.below hW) (HSB.out.below hW) (by omega) (by omega))
      have X7 := Lib.hid (fun (W : World) (hW : Below w.heap.size w W) => all_any va vb a b W (HSA.out.below hW) (HSB.out.below hW) (by omega))
      have X8 := Lib.hid (fun (W : World) (hW : Below w.heap.size w W) => refAll_any va vb a b W (HSA.out.below hW) (HSB.out.below hW) (by omega) (by omega))
      have X9 := Lib.hid (fun (W : World) (hW : Below w.heap.size w W) => less_any va vb a b W (HSA.out.below hW) (HSB.out.below hW) (by omega) (by omega))
      have X10 := Lib.hid (fun (W : World) (hW : Below w.heap.size w W) => refLess_any va vb a b W (HSA.out.below hW) (HSB.out.below hW) (by omega) (by omega))
      have HSAME := Lib.hid (fun (W W1 : World) (u v : Value) (l : List ByteArray) (h1 : SliceN W1 u l) (hb : Below W1.heap.size W1 W) (h2 : SliceN W v l) (hl : l.length ≤ 1000000000) => (sameN_self l) ▸ refSame_any u v l l W (h1.below hb) h2 hl hl)
      have HLB : Hid ((setS (a.filter (hasN b))).length ≤ 1000000000) := Lib.hid (by
        have := setLen (a.filter (hasN b)) (Nat.le_trans (List.length_filter_le _ _) (by omega)); omega)
      have HLA : Hid ((setS (a ++ b)).length ≤ 1000000000) := Lib.hid (by
        have := setLen (a ++ b) (by rw [List.length_append]; omega); omega)
      have HLL : Hid ((setS (a.filter fun x => !hasN b x)).length ≤ 1000000000) := Lib.hid (by
        have := setLen (a.filter fun x => !hasN b x) (Nat.le_trans (List.length_filter_le _ _) (by omega)); omega)
      obtain ⟨q1, hq1⟩ : ∃ q, q = hasN a nm := ⟨_, rfl⟩
      obtain ⟨q2, hq2⟩ : ∃ q, q = a.all (hasN b) := ⟨_, rfl⟩
      rw [← hq1] at X1 X2
      rw [← hq2] at X3 X4
      have e1 : (q1 == q1) = true := by cases q1 <;> rfl
      have e2 : (q2 == q2) = true := by cases q2 <;> rfl
      clear hga hgb HSA HSB HRA HRB hla hlb hq1 hq2
      go_enter Try.func3, Try.ntmps3
      go_wp2_with (first
        | (go_at_call 5; (with_reducible refine HAL.out.mono ?_); rintro e w1 ⟨rfl, hb1⟩; have HB1 := Lib.hid hb1; clear hb1)
        | (go_at_call 6; (with_reducible refine (HGA.out _ HB1.out).mono ?_); rintro e w2 ⟨rfl, rfl⟩)
        | (go_at_call 6; (with_reducible refine (HGB.out _ HB1.out).mono ?_); rintro e w2 ⟨rfl, rfl⟩)
        | (go_at_call 7; (with_reducible refine (X1.out _ HB1.out).mono ?_); rintro e w2 ⟨rfl, rfl⟩)
        | (go_at_call 8; (with_reducible refine (X2.out _ HB1.out).mono ?_); rintro e w2 ⟨rfl, rfl⟩)
        | (go_at_call 9; (with_reducible refine (X3.out _ HB1.out).mono ?_); rintro e w3 ⟨rfl, hb3⟩; have HB3 := Lib.hid (HB1.out.trans (hb3.mono HB1.out.size)); clear hb3)
        | (go_at_call 10; (with_reducible refine (X4.out _ HB3.out).mono ?_); rintro e w4 ⟨rfl, hb4⟩; have HB4 := Lib.hid (HB3.out.trans (hb4.mono HB3.out.size)); clear hb4)
        | (go_at_call 12; (with_reducible refine (X5.out _ HB4.out).mono ?_); rintro e w5 ⟨v5, rfl, hs5, hb5⟩; have HS5 := Lib.hid hs5; have HB5 := Lib.hid (HB4.out.trans (hb5.mono HB4.out.size)); clear hs5 hb5)
        | (go_at_call 13; (with_reducible refine (X6.out _ HB5.out).mono ?_); rintro e w6 ⟨v6, rfl, hs6, hb6⟩; have HS6 := Lib.hid (HSAME.out w6 w5 v5 v6 _ HS5.out hb6 hs6 HLB.out); have HB6 := Lib.hid (HB5.out.trans (hb6.mono HB5.out.size)); clear hs6 hb6)
        | (go_at_call 11; (with_reducible refine HS6.out.mono ?_); rintro e w7 ⟨rfl, hb7⟩; have HB7 := Lib.hid (HB6.out.trans (hb7.mono HB6.out.size)); clear hb7)
        | (go_at_call 14; (with_reducible refine (X7.out _ HB7.out).mono ?_); rintro e w8 ⟨v8, rfl, hs8, hb8⟩; have HS8 := Lib.hid hs8; have HB8 := Lib.hid (HB7.out.trans (hb8.mono HB7.out.size)); clear hs8 hb8)
        | (go_at_call 15; (with_reducible refine (X8.out _ HB8.out).mono ?_); rintro e w9 ⟨v9, rfl, hs9, hb9⟩; have HS9 := Lib.hid (HSAME.out w9 w8 v8 v9 _ HS8.out hb9 hs9 HLA.out); have HB9 := Lib.hid (HB8.out.trans (hb9.mono HB8.out.size)); clear hs9 hb9)
        | (go_at_call 11; (with_reducible refine HS9.out.mono ?_); rintro e w10 ⟨rfl, hb10⟩; have HB10 := Lib.hid (HB9.out.trans (hb10.mono HB9.out.size)); clear hb10)
        | (go_at_call 16; (with_reducible refine (X9.out _ HB10.out).mono ?_); rintro e w11 ⟨v11, rfl, hs11, hb11⟩; have HS11 := Lib.hid hs11; have HB11 := Lib.hid (HB10.out.trans (hb11.mono HB10.out.size)); clear hs11 hb11)
        | (go_at_call 17; (with_reducible refine (X10.out _ HB11.out).mono ?_); rintro e w12 ⟨v12, rfl, hs12, hb12⟩; have HS12 := Lib.hid (HSAME.out w12 w11 v11 v12 _ HS11.out hb12 hs12 HLL.out); have HB12 := Lib.hid (HB11.out.trans (hb12.mono HB11.out.size)); clear hs12 hb12)
        | (go_at_call 11; (with_reducible refine HS12.out.mono ?_); rintro e w13 ⟨rfl, hb13⟩; have HB13 := Lib.hid (HB12.out.trans (hb13.mono HB12.out.size)); clear hb13))
      go_ret
      exact ⟨rfl, HB13.out⟩
end Go.Proofs.Ytapalkipdmdceaa
