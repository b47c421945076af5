/- UtfRef, UtfRefNext, UtfRefBad, LxRefS, DecRefP: merged. -/
import Derived.Test.YtcjfealalokjaaaGreatDoorPa04
import Derived.Test.YtcjfealalokjaaaGreatDoorPa23
set_option linter.all false
namespace Go.Proofs.YtcjfealalokjaaaGreatDoor
open Go Go.RowKit
set_option maxHeartbeats 400000 in
theorem refPut_none (n : Int) (w : World) (h : n < 0 ∨ 1114111 < n ∨ (55296 ≤ n ∧ n ≤ 57343)) :
    Calls Tryz.prog 144 #[.int .i64 n] w fun e w' => e = .returned (.string (toS (putL n))) ∧ Below w.heap.size w w' := by
  have hS : toS (putL n) = ⟨#[]⟩ := by rw [putL_none h]; rfl
  rw [hS]
  clear hS
  rcases h with h | h | ⟨h, h'⟩
  all_goals
    go_enter Tryz.func144, Tryz.ntmps144
    go_wp2
    go_ret
    exact ⟨rfl, Below.refl _ _⟩
set_option maxHeartbeats 400000 in
theorem refPut_one (n : Int) (w : World) (h0 : 0 ≤ n) (h1 : n < 128) :
    Calls Tryz.prog 144 #[.int .i64 n] w fun e w' => e = .returned (.string (toS (putL n))) ∧ Below w.heap.size w w' := by
  have hp : putL n = [n] := putL_one h0 h1
  have hcv : ∀ W : World, (convert 73 9 (.slice (some ⟨W.heap.size, 0, none⟩) 1 1)).run Tryz.prog (W.alloc (.cells #[.int .u8 (n)] 5)) = .ok (.string (toS [n])) (W.alloc (.cells #[.int .u8 (n)] 5)) := fun W =>
    conv_str _ [n] 1 1 _ rfl (Lies.lit W _ _ _)
  rw [hp]
  obtain ⟨S, hS⟩ : ∃ S, S = toS [n] := ⟨_, rfl⟩
  rw [← hS] at hcv ⊢
  clear hS hp
  go_enter Tryz.func144, Tryz.ntmps144
  go_wp2
  go_ret
  exact ⟨rfl, belowAlloc _ _⟩
set_option maxHeartbeats 400000 in
theorem refPut_two (n : Int) (w : World) (h0 : 128 ≤ n) (h1 : n < 2048) :
    Calls Tryz.prog 144 #[.int .i64 n] w fun e w' => e = .returned (.string (toS (putL n))) ∧ Below w.heap.size w w' := by
  have hp : putL n = [192 + n / 64, 128 + n % 64] := putL_two h0 h1
  have hcv : ∀ W : World, (convert 73 9 (.slice (some ⟨W.heap.size, 0, none⟩) 2 2)).run Tryz.prog (W.alloc (.cells #[.int .u8 (192 + n / 64), .int .u8 (128 + n % 64)] 5)) = .ok (.string (toS [192 + n / 64, 128 + n % 64])) (W.alloc (.cells #[.int .u8 (192 + n / 64), .int .u8 (128 + n % 64)] 5)) := fun W =>
    conv_str _ [192 + n / 64, 128 + n % 64] 2 2 _ rfl (Lies.lit W _ _ _)
  rw [hp]
  obtain ⟨S, hS⟩ : ∃ S, S = toS [192 + n / 64, 128 + n % 64] := ⟨_, rfl⟩
  rw [← hS] at hcv ⊢
  clear hS hp
  go_enter Tryz.func144, Tryz.ntmps144
  go_wp2
  go_ret
  exact ⟨rfl, belowAlloc _ _⟩
set_option maxHeartbeats 400000 in
theorem refPut_three (n : Int) (w : World) (h0 : 2048 ≤ n) (h1 : n < 65536) (h2 : n < 55296) :
    Calls Tryz.prog 144 #[.int .i64 n] w fun e w' => e = .returned (.string (toS (putL n))) ∧ Below w.heap.size w w' := by
  have hp : putL n = [224 + n / 4096, 128 + n / 64 % 64, 128 + n % 64] := putL_three h0 h1 (by omega)
  have hcv : ∀ W : World, (convert 73 9 (.slice (some ⟨W.heap.size, 0, none⟩) 3 3)).run Tryz.prog (W.alloc (.cells #[.int .u8 (224 + n / 4096), .int .u8 (128 + n / 64 % 64), .int .u8 (128 + n % 64)] 5)) = .ok (.string (toS [224 + n / 4096, 128 + n / 64 % 64, 128 + n % 64])) (W.alloc (.cells #[.int .u8 (224 + n / 4096), .int .u8 (128 + n / 64 % 64), .int .u8 (128 + n % 64)] 5)) := fun W =>
    conv_str _ [224 + n / 4096, 128 + n / 64 % 64, 128 + n % 64] 3 3 _ rfl (Lies.lit W _ _ _)
  rw [hp]
  obtain ⟨S, hS⟩ : ∃ S, S = toS [224 + n / 4096, 128 + n / 64 % 64, 128 + n % 64] := ⟨_, rfl⟩
  rw [← hS] at hcv ⊢
  clear hS hp
  go_enter Tryz.func144, Tryz.ntmps144
  go_wp2
  go_ret
  exact ⟨rfl, belowAlloc _ _⟩
set_option maxHeartbeats 400000 in
theorem refPut_three2 (n : Int) (w : World) (h0 : 2048 ≤ n) (h1 : n < 65536) (h2 : 57343 < n) :
    Calls Tryz.prog 144 #[.int .i64 n] w fun e w' => e = .returned (.string (toS (putL n))) ∧ Below w.heap.size w w' := by
  have hp : putL n = [224 + n / 4096, 128 + n / 64 % 64, 128 + n % 64] := putL_three h0 h1 (by omega)
  have hcv : ∀ W : World, (convert 73 9 (.slice (some ⟨W.heap.size, 0, none⟩) 3 3)).run Tryz.prog (W.alloc (.cells #[.int .u8 (224 + n / 4096), .int .u8 (128 + n / 64 % 64), .int .u8 (128 + n % 64)] 5)) = .ok (.string (toS [224 + n / 4096, 128 + n / 64 % 64, 128 + n % 64])) (W.alloc (.cells #[.int .u8 (224 + n / 4096), .int .u8 (128 + n / 64 % 64), .int .u8 (128 + n % 64)] 5)) := fun W =>
    conv_str _ [224 + n / 4096, 128 + n / 64 % 64, 128 + n % 64] 3 3 _ rfl (Lies.lit W _ _ _)
  rw [hp]
  obtain ⟨S, hS⟩ : ∃ S, S = toS [224 + n / 4096, 128 + n / 64 % 64, 128 + n % 64] := ⟨_, rfl⟩
  rw [← hS] at hcv ⊢
  clear hS hp
  go_enter Tryz.func144, Tryz.ntmps144
  go_wp2
  go_ret
  exact ⟨rfl, belowAlloc _ _⟩
set_option maxHeartbeats 400000 in
theorem refPut_four (n : Int) (w : World) (h0 : 65536 ≤ n) (h1 : n ≤ 1114111) :
    Calls Tryz.prog 144 #[.int .i64 n] w fun e w' => e = .returned (.string (toS (putL n))) ∧ Below w.heap.size w w' := by
  have hp : putL n = [240 + n / 262144, 128 + n / 4096 % 64, 128 + n / 64 % 64, 128 + n % 64] := putL_four h0 h1
  have hcv : ∀ W : World, (convert 73 9 (.slice (some ⟨W.heap.size, 0, none⟩) 4 4)).run Tryz.prog (W.alloc (.cells #[.int .u8 (240 + n / 262144), .int .u8 (128 + n / 4096 % 64), .int .u8 (128 + n / 64 % 64), .int .u8 (128 + n % 64)] 5)) = .ok (.string (toS [240 + n / 262144, 128 + n / 4096 % 64, 128 + n / 64 % 64, 128 + n % 64])) (W.alloc (.cells #[.int .u8 (240 + n / 262144), .int .u8 (128 + n / 4096 % 64), .int .u8 (128 + n / 64 % 64), .int .u8 (128 + n % 64)] 5)) := fun W =>
    conv_str _ [240 + n / 262144, 128 + n / 4096 % 64, 128 + n / 64 % 64, 128 + n % 64] 4 4 _ rfl (Lies.lit W _ _ _)
  rw [hp]
  obtain ⟨S, hS⟩ : ∃ S, S = toS [240 + n / 262144, 128 + n / 4096 % 64, 128 + n / 64 % 64, 128 + n % 64] := ⟨_, rfl⟩
  rw [← hS] at hcv ⊢
  clear hS hp
  go_enter Tryz.func144, Tryz.ntmps144
  go_wp2
  go_ret
  exact ⟨rfl, belowAlloc _ _⟩
theorem refPut_any (n : Int) (w : World) :
    Calls Tryz.prog 144 #[.int .i64 n] w fun e w' => e = .returned (.string (toS (putL n))) ∧ Below w.heap.size w w' := by
  rcases putL_cases n with ⟨h, h'⟩ | ⟨h1, h2, h⟩ | ⟨h1, h2, h⟩ | ⟨h1, h2, h3, h⟩ | ⟨h1, h2, h⟩
  · exact refPut_none n w h'
  · exact refPut_one n w h1 h2
  · exact refPut_two n w h1 h2
  · rcases h3 with h3 | h3
    · exact refPut_three n w h1 h2 h3
    · exact refPut_three2 n w h1 h2 h3
  · exact refPut_four n w h1 h2
end Go.Proofs.YtcjfealalokjaaaGreatDoor
namespace Go.Proofs.YtcjfealalokjaaaGreatDoor
open Go Go.RowKit
/-- No letter of fewer than k bytes begins here. -/
def NoneBelow (l : List Int) (k : Nat) : Prop := ∀ q, 1 ≤ q → q < k → q ≤ l.length → ¬ putL (refC l q) = l.take q
theorem NoneBelow.step {l : List Int} {k : Nat} (h : NoneBelow l k) (hk : ¬ putL (refC l k) = l.take k) : NoneBelow l (k + 1) := fun q h1 h2 h3 => by
  rcases Nat.lt_or_ge q k with hq | hq
  · exact h q h1 hq h3
  · obtain rfl : q = k := by omega
    exact hk
def refM (k : Nat) : Int := if k = 1 then 256 else if k = 2 then 32 else if k = 3 then 16 else 8
theorem refNext_empty (w : World) :
    Calls Tryz.prog 112 #[.string ⟨#[]⟩] w fun e w' => e = .returned (.tuple #[.int .i64 (-1), .int .i64 0]) ∧ Below w.heap.size w w' := by
  go_enter Tryz.func112, Tryz.ntmps112
  go_wp2
  go_ret2
  exact ⟨rfl, Below.refl _ _⟩
set_option maxRecDepth 100000 in
set_option maxHeartbeats 4000000 in
theorem refNext_some (s : ByteArray) (w : World) (h0 : 0 < s.size) (hsz : s.size ≤ 9223372036854775807) :
    Calls Tryz.prog 112 #[.string s] w fun e w' => e = .returned (.tuple #[.int .i64 (nxL (strL s)).1, .int .i64 ((nxL (strL s)).2 : Int)]) ∧ Below w.heap.size w w' := by
  have hlen := length_strL s
  have HNE : Hid (strL s ≠ []) := Lib.hid (fun e => by rw [e] at hlen; simp at hlen; omega)
  have HL := Lib.hid hlen
  have hz : ((s.size : Int) == 0) = false := by rw [beq_eq_false_iff_ne]; omega
  clear hlen
  go_enter Tryz.func112, Tryz.ntmps112
  go_wp2
  go_loopw [4] (fun v wr => ∃ (k : Nat) (K : Int), 1 ≤ k ∧ k ≤ 5 ∧ K = (k : Int) ∧ v = .int .i64 K ∧ NoneBelow (strL s) k ∧ Below w.heap.size w wr) (fun v _ => 5 - (intOf v).toNat)
  case atStart => exact ⟨1, 1, by omega, by omega, rfl, rfl, fun q h1 h2 _ => by omega, Below.refl _ _⟩
  case round =>
    obtain ⟨k, K, hk1, hk5, hK, rfl, hno, hbel⟩ := hrel
    have HNO := Lib.hid hno
    have HB := Lib.hid hbel
    have HK := Lib.hid hK
    have hK1 : 1 ≤ K := by omega
    by_cases hin : K ≤ 4 ∧ K ≤ (s.size : Int)
    · obtain ⟨hK4, hKs⟩ := hin
      have hs0 := (s[0]'h0).toNat_lt
      have HG0 := Lib.hid (strL_get s 0 h0)
      have h4 : K = 1 ∨ K = 2 ∨ K = 3 ∨ K = 4 := by omega
      obtain ⟨c0, hcc⟩ : ∃ c0 : Int, c0 = (strL s).getD 0 0 % refM k := ⟨_, rfl⟩
      have hc0 : 0 ≤ c0 ∧ c0 ≤ 255 := by
        rw [hcc, HG0.out]; unfold refM; split <;> (try split) <;> (try split) <;> omega
      have HC0 := Lib.hid hcc
      have HA := Lib.hid (accL_bd c0 (strL s) hc0)
      have HREF : Hid (refC (strL s) k = accL c0 (strL s) (k - 1)) := Lib.hid (by rw [HC0.out]; rfl)
      have hin2 : k ≤ s.size := by have := HK.out; omega
      have hk4 : k ≤ 4 := by have := HK.out; omega
      obtain ⟨HSW, hsw'⟩ : Hid (c0 = if K = 1 then ((s[0]'h0).toNat : Int) else if K = 2 then ((s[0]'h0).toNat : Int) % 32 else if K = 3 then ((s[0]'h0).toNat : Int) % 16 else ((s[0]'h0).toNat : Int) % 8) ∧
          ((K == 2) = false ∧ (K == 3) = false ∧ (K == 4) = false ∧ K = 1 ∨ (K == 2) = true ∧ K = 2 ∨ (K == 2) = false ∧ (K == 3) = true ∧ K = 3 ∨ (K == 2) = false ∧ (K == 3) = false ∧ (K == 4) = true ∧ K = 4) := by
        rcases h4 with e | e | e | e
        · obtain rfl : k = 1 := by omega
          exact ⟨Lib.hid (by rw [hcc, HG0.out, if_pos e]; show _ % 256 = _; omega), .inl ⟨by rw [e]; rfl, by rw [e]; rfl, by rw [e]; rfl, e⟩⟩
        · obtain rfl : k = 2 := by omega
          exact ⟨Lib.hid (by rw [hcc, HG0.out, if_neg (by omega), if_pos e]; rfl), .inr (.inl ⟨by rw [e]; rfl, e⟩)⟩
        · obtain rfl : k = 3 := by omega
          exact ⟨Lib.hid (by rw [hcc, HG0.out, if_neg (by omega), if_neg (by omega), if_pos e]; rfl), .inr (.inr (.inl ⟨by rw [e]; rfl, by rw [e]; rfl, e⟩))⟩
        · obtain rfl : k = 4 := by omega
          exact ⟨Lib.hid (by rw [hcc, HG0.out, if_neg (by omega), if_neg (by omega), if_neg (by omega)]; rfl), .inr (.inr (.inr ⟨by rw [e]; rfl, by rw [e]; rfl, by rw [e]; rfl, e⟩))⟩
      clear hno hbel hK h4 hc0 hcc
      rcases hsw' with ⟨q2, q3, q4, hKK⟩ | ⟨q2, hKK⟩ | ⟨q2, q3, hKK⟩ | ⟨q2, q3, q4, hKK⟩
      all_goals
        have HKK := Lib.hid hKK
        clear hKK
        go_wp2
        go_loop [5, 6] (fun x i => ∃ j : Nat, j + 1 ≤ k ∧ i = .int .i64 ((j + 1 : Nat) : Int) ∧ x = .int .i64 (accL c0 (strL s) j)) (fun _ i => k - (intOf i).toNat)
        case atStart => exact ⟨0, by omega, rfl, by rw [accL, HSW.out, HKK.out]; rfl⟩
        case round =>
          obtain ⟨j, hj, rfl, rfl⟩ := hrel
          by_cases hlt : j + 1 < k
          · have hltK : (j : Int) + 1 < K := by have := HK.out; omega
            have ha := HA.out j
            have h64 := pow64 j (by omega)
            have ha2 : accL c0 (strL s) j < 140737488355328 := by omega
            obtain ⟨ha1, _⟩ := ha
            have HN : Hid (accL c0 (strL s) (j + 1) = accL c0 (strL s) j * 64 + ((s[j + 1]'(by omega)).toNat : Int) % 64) := Lib.hid (by rw [accL, strL_get s (j + 1) (by omega)])
            obtain ⟨x, hx⟩ : ∃ x, x = accL c0 (strL s) j := ⟨_, rfl⟩
            rw [← hx] at ha1 ha2 HN ⊢
            have hu := (s[j + 1]'(by omega)).toNat_lt
            clear hx h64
            go_wp2
            go_round
            case rel => exact ⟨j + 1, by omega, by go_num, by rw [HN.out]⟩
            case measure => simp [intOf]; omega
          · have hltK : ¬ (j : Int) + 1 < K := by have := HK.out; omega
            obtain rfl : k = j + 1 := by omega
            have HP := Lib.hid (fun W : World => refPut_any (accL c0 (strL s) j) W)
            rw [Nat.add_sub_cancel] at HREF
            have b0 : (0 : Int) ≤ K := by omega
            have b2 : K.toNat = j + 1 := by have := HK.out; omega
            by_cases hp : putL (accL c0 (strL s) j) = (strL s).take (j + 1)
            · have HR : Hid (nxL (strL s) = (accL c0 (strL s) j, j + 1)) := Lib.hid (by
                have := ref_hit (l := strL s) (k := j + 1) (by omega) (by rw [HL.out]; omega) (by rw [HREF.out]; exact hp)
                rw [HREF.out] at this
                exact this)
              have heq : ((toS (putL (accL c0 (strL s) j))).toList == (s.extract 0 (j + 1)).toList) = true := by
                rw [eq_toList, decide_eq_true_eq, hp]
                exact strL_inj (by rw [strL_toS ((strL_bd s).take _), strL_extract, List.drop_zero])
              obtain ⟨x, hx⟩ : ∃ x, x = accL c0 (strL s) j := ⟨_, rfl⟩
              rw [← hx] at heq HR HP ⊢
              obtain ⟨T, hT⟩ : ∃ T, T = toS (putL x) := ⟨_, rfl⟩
              rw [← hT] at heq HP
              clear hp hx hT HREF
              go_wp2_with fail
              go_region_held3 (fun W => Below wr.heap.size wr W) (first | exact (Below.refl _ _).drew | exact Below.trans (by assumption) (hb.mono (Below.size (by assumption))) | go_keep)
                (first | (go_at_call 144; refine (HP.out _).mono ?_; rintro e w' ⟨rfl, hb⟩))
              have HW' := Lib.hid (‹Below wr.heap.size wr _›)
              clear b0 b2 hb
              go_wp2_with fail
              go_ret2
              rw [HR.out, HK.out]
              exact ⟨rfl, HB.out.trans (HW'.out.mono HB.out.size)⟩
            · have HNX : Hid (NoneBelow (strL s) (j + 1 + 1)) := Lib.hid (HNO.out.step (by rw [HREF.out]; exact hp))
              have heq : ((toS (putL (accL c0 (strL s) j))).toList == (s.extract 0 (j + 1)).toList) = false := by
                rw [eq_toList, decide_eq_false_iff_not]
                intro e
                have e2 := (eq_toS (putL_bytes _)).1 e.symm
                rw [strL_extract, List.drop_zero] at e2
                exact hp e2.symm
              obtain ⟨x, hx⟩ : ∃ x, x = accL c0 (strL s) j := ⟨_, rfl⟩
              rw [← hx] at heq HP ⊢
              obtain ⟨T, hT⟩ : ∃ T, T = toS (putL x) := ⟨_, rfl⟩
              rw [← hT] at heq HP
              clear hp hx hT HREF
              go_wp2_with fail
              go_region_held3 (fun W => Below wr.heap.size wr W) (first | exact (Below.refl _ _).drew | exact Below.trans (by assumption) (hb.mono (Below.size (by assumption))) | go_keep)
                (first | (go_at_call 144; refine (HP.out _).mono ?_; rintro e w' ⟨rfl, hb⟩))
              have HW' := Lib.hid (‹Below wr.heap.size wr _›)
              clear b0 b2 hb
              go_wp2_with fail
              go_roundw
              case rel => exact ⟨j + 1 + 1, K + 1, by omega, by omega, by have := HK.out; omega, rfl, HNX.out, HB.out.trans (HW'.out.mono HB.out.size)⟩
              case measure => simp [intOf]; omega
    · have HR : Hid (nxL (strL s) = (-1, 1)) := Lib.hid (ref_miss HNE.out (fun q h1 h2 h3 => HNO.out q h1 (by have := HK.out; have := HL.out; omega) h3))
      have hd : ¬ (K ≤ 4 ∧ K ≤ (s.size : Int)) := hin
      by_cases h4 : K ≤ 4
      · have h5 : ¬ K ≤ (s.size : Int) := fun h => hin ⟨h4, h⟩
        clear hin hd hno hbel hK
        go_wp2
        go_ret2
        rw [HR.out]
        exact ⟨rfl, HB.out⟩
      · clear hin hd hno hbel hK
        go_wp2
        go_ret2
        rw [HR.out]
        exact ⟨rfl, HB.out⟩
theorem refNext_any (s : ByteArray) (w : World) (hsz : s.size ≤ 9223372036854775807) :
    Calls Tryz.prog 112 #[.string s] w fun e w' => e = .returned (.tuple #[.int .i64 (nxL (strL s)).1, .int .i64 ((nxL (strL s)).2 : Int)]) ∧ Below w.heap.size w w' := by
  rcases Nat.eq_zero_or_pos s.size with h0 | h0
  · have e : s = ⟨#[]⟩ := strL_inj (by rw [List.eq_nil_of_length_eq_zero ((length_strL s).trans h0)]; rfl)
    subst e
    exact refNext_empty w
  · exact refNext_some s w h0 hsz
/-! ### Bad -/
/-- What Bad tells. -/
def badR (l : List Int) : Int := if badU l = l.length then -1 else (badU l : Int)
end Go.Proofs.YtcjfealalokjaaaGreatDoor
namespace Go.Proofs.YtcjfealalokjaaaGreatDoor
open Go Go.RowKit
set_option maxHeartbeats 1000000 in
theorem refBad_any (s : ByteArray) (w : World) (hsz : s.size ≤ 9223372036854775807) :
    Calls Tryz.prog 74 #[.string s] w fun e w' => e = .returned (.int .i64 (badR (strL s))) ∧ Below w.heap.size w w' := by
  go_enter Tryz.func74, Tryz.ntmps74
  go_wp2
  go_loopw [3] (fun v wr => ∃ k : Nat, k ≤ s.size ∧ v = .int .i64 (k : Int) ∧ badU (strL s) = k + badU ((strL s).drop k) ∧ Below w.heap.size w wr) (fun v _ => s.size - (intOf v).toNat)
  case atStart => exact ⟨0, by omega, rfl, by simp, Below.refl _ _⟩
  case round =>
    obtain ⟨k, hk, rfl, hbad, hbel⟩ := hrel
    have HBAD := Lib.hid hbad
    have HB := Lib.hid hbel
    clear hbad hbel
    by_cases hlt : k < s.size
    · have hex : strL (s.extract k s.size) = (strL s).drop k := by rw [strL_extract, List.take_of_length_le (by rw [length_strL]; omega)]
      have HN := Lib.hid (refNext_any (s.extract k s.size) wr (by rw [← length_strL, hex, List.length_drop, length_strL]; omega))
      rw [hex] at HN
      have hbd := nx_bd ((strL s).drop k)
      have hll : ((strL s).drop k).length = s.size - k := by rw [List.length_drop, length_strL]
      rw [hll] at hbd
      by_cases hn : (nxL ((strL s).drop k)).1 = -1
      · have HR : Hid (badR (strL s) = (k : Int)) := Lib.hid (by
          unfold badR
          have := HBAD.out
          rw [badU_stop hn] at this
          rw [if_neg (by rw [length_strL]; omega), this]; simp)
        obtain ⟨n, hnn⟩ : ∃ n, n = (nxL ((strL s).drop k)).2 := ⟨_, rfl⟩
        rw [hn, ← hnn] at HN
        clear hn hnn hbd hex hll HBAD
        go_wp2_with (go_at_call 112; refine HN.out.mono ?_; rintro e w' ⟨rfl, hb⟩; have HB2 := Lib.hid (HB.out.trans (hb.mono HB.out.size)); clear hb)
        go_ret
        exact ⟨ret_int HR.out.symm, HB2.out⟩
      · have HR : Hid (badU (strL s) = (k + (nxL ((strL s).drop k)).2) + badU ((strL s).drop (k + (nxL ((strL s).drop k)).2))) := Lib.hid (badU_from HBAD.out hn)
        have hf := nx_found hn
        rw [hll] at hf
        obtain ⟨n, hnn⟩ : ∃ n, n = (nxL ((strL s).drop k)).2 := ⟨_, rfl⟩
        obtain ⟨x, hx⟩ : ∃ x, x = (nxL ((strL s).drop k)).1 := ⟨_, rfl⟩
        rw [← hnn, ← hx] at HN hf
        rw [← hnn] at HR
        obtain ⟨_, _, hn1, hn2, hn3, hx0, _⟩ := hf
        clear hn hnn hbd hex hll hx
        go_wp2_with (go_at_call 112; refine HN.out.mono ?_; rintro e w' ⟨rfl, hb⟩; have HB2 := Lib.hid (HB.out.trans (hb.mono HB.out.size)); clear hb)
        go_roundw
        case rel => exact ⟨k + n, by omega, by go_num, HR.out, HB2.out⟩
        case measure => simp [intOf]; omega
    · obtain rfl : k = s.size := by omega
      have HR : Hid (badR (strL s) = -1) := Lib.hid (by
        unfold badR
        have := HBAD.out
        rw [show (strL s).drop s.size = [] from List.drop_eq_nil_of_le (by rw [length_strL]; exact Nat.le_refl _), show badU [] = 0 from rfl] at this
        rw [if_pos (by rw [length_strL]; omega)])
      clear HBAD
      go_wp2
      go_ret
      exact ⟨ret_int HR.out.symm, HB.out⟩
end Go.Proofs.YtcjfealalokjaaaGreatDoor
namespace Go.Proofs.YtcjfealalokjaaaGreatDoor
open Go Go.RowKit
set_option maxRecDepth 100000 in
theorem refSmall_any (c : Int) (w : World) : Calls Tryz.prog 57 #[.int .u8 c] w fun e w' => e = .returned (.bool (smallC c)) ∧ w = w' := by
  rcases small_cases c with ⟨hs, rfl⟩ | ⟨hs, e1, e2, e3⟩ | ⟨hs, e1, e2⟩ | ⟨hs, e1, e2, e3⟩
  · rw [hs]
    go_enter Tryz.func57, Tryz.ntmps57
    go_wp2
    go_ret
    exact ⟨rfl, rfl⟩
  · rw [hs]
    have f1 : 97 ≤ c := by omega
    have f2 : c ≤ 122 := by omega
    clear hs e1 e2 e3
    go_enter Tryz.func57, Tryz.ntmps57
    go_wp2
    go_ret
    exact ⟨rfl, rfl⟩
  · rw [hs]
    have f1 : ¬ 97 ≤ c := by omega
    clear hs e2
    go_enter Tryz.func57, Tryz.ntmps57
    go_wp2
    go_ret
    exact ⟨rfl, rfl⟩
  · rw [hs]
    have f1 : 97 ≤ c := by omega
    have f2 : ¬ c ≤ 122 := by omega
    clear hs e2 e3
    go_enter Tryz.func57, Tryz.ntmps57
    go_wp2
    go_ret
    exact ⟨rfl, rfl⟩
/-! ### Sign -/
def oneAt (k : Nat) : Int := [40, 41, 91, 93, 44, 59, 61, 60, 62].getD k 0
theorem oneAt_nat : ∀ i : Fin 9, (((⟨#[40, 41, 91, 93, 44, 59, 61, 60, 62]⟩ : ByteArray)[i.val]'(i.isLt)).toNat : Int) = oneAt i.val := by decide
theorem oneAt_get (k : Nat) (hk : k < 9) : (((⟨#[40, 41, 91, 93, 44, 59, 61, 60, 62]⟩ : ByteArray)[k]'hk).toNat : Int) = oneAt k := oneAt_nat ⟨k, hk⟩
theorem oneC_hit {c : Int} {k : Nat} (hk : k < 9) (h : oneAt k = c) : oneC c = true := by
  match k, hk with
  | 0, _ => subst h; rfl
  | 1, _ => subst h; rfl
  | 2, _ => subst h; rfl
  | 3, _ => subst h; rfl
  | 4, _ => subst h; rfl
  | 5, _ => subst h; rfl
  | 6, _ => subst h; rfl
  | 7, _ => subst h; rfl
  | 8, _ => subst h; rfl
theorem oneC_miss {c : Int} (h : ∀ k, k < 9 → oneAt k ≠ c) : oneC c = false := decide_eq_false fun hq => by
  have h0 : (40 : Int) ≠ c := h 0 (by decide)
  have h1 : (41 : Int) ≠ c := h 1 (by decide)
  have h2 : (91 : Int) ≠ c := h 2 (by decide)
  have h3 : (93 : Int) ≠ c := h 3 (by decide)
  have h4 : (44 : Int) ≠ c := h 4 (by decide)
  have h5 : (59 : Int) ≠ c := h 5 (by decide)
  have h6 : (61 : Int) ≠ c := h 6 (by decide)
  have h7 : (60 : Int) ≠ c := h 7 (by decide)
  have h8 : (62 : Int) ≠ c := h 8 (by decide)
  omega
set_option maxRecDepth 100000 in
set_option maxHeartbeats 8000000 in
theorem refSign_none (w : World) : Calls Tryz.prog 61 #[.string ⟨#[]⟩] w fun e w' => e = .returned (.int .i64 0) ∧ Below w.heap.size w w' := by
  have HB := Lib.hid (belowAlloc w (.cells #[.string ⟨#[33, 61]⟩, .string ⟨#[60, 61]⟩, .string ⟨#[62, 61]⟩] 9))
  go_enter Tryz.func61, Tryz.ntmps61
  go_wp2_with fail
  refine wp_loop_rounds 4 ?_
  rw [rounds_succ]
  go_wp2_with fail
  go_quiet (fail)
  go_wp2_with fail
  rw [rounds_succ]
  go_wp2_with fail
  go_quiet (fail)
  go_wp2_with fail
  rw [rounds_succ]
  go_wp2_with fail
  go_quiet (fail)
  go_wp2_with fail
  rw [rounds_succ]
  go_wp2_with fail
  go_loopw [6] (fun v wr => ∃ k : Nat, k ≤ 9 ∧ v = .int .i64 (k : Int) ∧ Below w.heap.size w wr) (fun v _ => 9 - (intOf v).toNat)
  case atStart => exact ⟨0, by omega, rfl, by repeat first | exact HB.out | refine below_drewN ?_ _⟩
  case round =>
    obtain ⟨k, hk, rfl, hbel⟩ := hrel
    have HBE := Lib.hid hbel
    clear hbel
    by_cases hlt : k < 9
    · have hki : (k : Int) < 9 := by omega
      have hk0 : (0 : Int) ≤ (k : Int) := by omega
      go_wp2_with fail
      go_quiet (fail)
      go_wp2_with fail
      go_roundw
      case rel => exact ⟨k + 1, by omega, by go_num, below_drewN HBE.out _⟩
      case measure => simp [intOf]; omega
    · obtain rfl : k = 9 := by omega
      go_wp2_with fail
      go_ret
      exact ⟨rfl, HBE.out⟩
section
variable (s F : ByteArray) (w : World)
set_option maxRecDepth 100000 in
set_option maxHeartbeats 4000000 in
theorem refSign_two (hl : 2 ≤ s.size) (hF : s.extract 0 2 = F) (h : strL F = [33, 61] ∨ strL F = [60, 61] ∨ strL F = [62, 61]) :
    Calls Tryz.prog 61 #[.string s] w fun e w' => e = .returned (.int .i64 2) ∧ Below w.heap.size w w' := by
  have hd : decide ((2 : Int) ≤ (s.size : Int)) = true := decide_eq_true (by omega)
  have hd2 : (2 : Int) ≤ (s.size : Int) := by omega
  have HB := Lib.hid (belowAlloc w (.cells #[.string ⟨#[33, 61]⟩, .string ⟨#[60, 61]⟩, .string ⟨#[62, 61]⟩] 9))
  rcases h with h | h | h
  · have b1 : (F.toList == [33, 61]) = true := by rw [toList_is, h]; rfl
    clear h hl
    go_enter Tryz.func61, Tryz.ntmps61
    go_wp2_with fail
    refine wp_loop_rounds 1 ?_
    rw [rounds_succ]
    go_wp2_with fail
    go_quiet (fail)
    go_wp2_with fail
    go_ret
    exact ⟨rfl, below_drewN HB.out _⟩
  · have b1 : (F.toList == [33, 61]) = false := by rw [toList_is, h]; rfl
    have b2 : (F.toList == [60, 61]) = true := by rw [toList_is, h]; rfl
    clear h hl
    go_enter Tryz.func61, Tryz.ntmps61
    go_wp2_with fail
    refine wp_loop_rounds 2 ?_
    rw [rounds_succ]
    go_wp2_with fail
    go_quiet (fail)
    go_wp2_with fail
    rw [rounds_succ]
    go_wp2_with fail
    go_quiet (fail)
    go_wp2_with fail
    go_ret
    exact ⟨rfl, below_drewN (below_drewN HB.out _) _⟩
  · have b1 : (F.toList == [33, 61]) = false := by rw [toList_is, h]; rfl
    have b2 : (F.toList == [60, 61]) = false := by rw [toList_is, h]; rfl
    have b3 : (F.toList == [62, 61]) = true := by rw [toList_is, h]; rfl
    clear h hl
    go_enter Tryz.func61, Tryz.ntmps61
    go_wp2_with fail
    refine wp_loop_rounds 3 ?_
    rw [rounds_succ]
    go_wp2_with fail
    go_quiet (fail)
    go_wp2_with fail
    rw [rounds_succ]
    go_wp2_with fail
    go_quiet (fail)
    go_wp2_with fail
    rw [rounds_succ]
    go_wp2_with fail
    go_quiet (fail)
    go_wp2_with fail
    go_ret
    exact ⟨rfl, below_drewN (below_drewN HB.out _) _⟩
set_option maxRecDepth 100000 in
set_option maxHeartbeats 8000000 in
theorem refSign_one (hs : s.size ≤ 9223372036854775807) (hz : 0 < s.size) (hF : s.extract 0 2 = F) (h1 : strL F ≠ [33, 61]) (h2 : strL F ≠ [60, 61]) (h3 : strL F ≠ [62, 61]) :
    Calls Tryz.prog 61 #[.string s] w fun e w' => e = .returned (.int .i64 (if oneC (s[0].toNat : Int) then 1 else 0)) ∧ Below w.heap.size w w' := by
  obtain ⟨R, hR⟩ : ∃ R : Int, R = (if oneC (s[0].toNat : Int) then 1 else 0) := ⟨_, rfl⟩
  rw [← hR]
  have HRR := Lib.hid hR
  clear hR
  have b1 : (F.toList == [33, 61]) = false := by rw [toList_is]; exact decide_eq_false h1
  have b2 : (F.toList == [60, 61]) = false := by rw [toList_is]; exact decide_eq_false h2
  have b3 : (F.toList == [62, 61]) = false := by rw [toList_is]; exact decide_eq_false h3
  have HB := Lib.hid (belowAlloc w (.cells #[.string ⟨#[33, 61]⟩, .string ⟨#[60, 61]⟩, .string ⟨#[62, 61]⟩] 9))
  have hp : decide ((0 : Int) < (s.size : Int)) = true := decide_eq_true (by omega)
  have hp2 : (0 : Int) < (s.size : Int) := by omega
  have HH : Hid (∀ k, k < 9 → oneAt k = (s[0].toNat : Int) → oneC (s[0].toNat : Int) = true) := Lib.hid fun k hk h => oneC_hit hk h
  have HMI : Hid ((∀ k, k < 9 → oneAt k ≠ (s[0].toNat : Int)) → oneC (s[0].toNat : Int) = false) := Lib.hid fun h => oneC_miss h
  clear h1 h2 h3
  by_cases hl : 2 ≤ s.size
  · have hd : decide ((2 : Int) ≤ (s.size : Int)) = true := decide_eq_true (by omega)
    have hd2 : (2 : Int) ≤ (s.size : Int) := by omega
    clear hl
    go_enter Tryz.func61, Tryz.ntmps61
    go_wp2_with fail
    refine wp_loop_rounds 4 ?_
    rw [rounds_succ]
    go_wp2_with fail
    go_quiet (fail)
    go_wp2_with fail
    rw [rounds_succ]
    go_wp2_with fail
    go_quiet (fail)
    go_wp2_with fail
    rw [rounds_succ]
    go_wp2_with fail
    go_quiet (fail)
    go_wp2_with fail
    rw [rounds_succ]
    go_wp2_with fail
    go_loopw [6] (fun v wr => ∃ k : Nat, k ≤ 9 ∧ v = .int .i64 (k : Int) ∧ Hid (∀ j, j < k → oneAt j ≠ (s[0].toNat : Int)) ∧ Below w.heap.size w wr) (fun v _ => 9 - (intOf v).toNat)
    case atStart => exact ⟨0, by omega, rfl, Lib.hid (fun j h => absurd h (Nat.not_lt_zero _)), by repeat first | exact HB.out | refine below_drewN ?_ _⟩
    case round =>
      obtain ⟨k, hk, rfl, HJ, hbel⟩ := hrel
      have HBE := Lib.hid hbel
      clear hbel
      by_cases hlt : k < 9
      · have hki : (k : Int) < 9 := by omega
        have hk0 : (0 : Int) ≤ (k : Int) := by omega
        by_cases hq : oneAt k = (s[0].toNat : Int)
        · have HQ := Lib.hid (HH.out k hlt hq)
          have hq2 : ((s[0].toNat : Int) == (((⟨#[40, 41, 91, 93, 44, 59, 61, 60, 62]⟩ : ByteArray)[k]'hlt).toNat : Int)) = true := by rw [oneAt_get k hlt, hq]; exact beq_self_eq_true _
          clear hq
          go_wp2_with fail
          go_quiet (fail)
          go_wp2_with fail
          go_ret
          rw [HRR.out, HQ.out]
          exact ⟨rfl, below_drewN HBE.out _⟩
        · have hq2 : ((s[0].toNat : Int) == (((⟨#[40, 41, 91, 93, 44, 59, 61, 60, 62]⟩ : ByteArray)[k]'hlt).toNat : Int)) = false := by rw [oneAt_get k hlt, beq_eq_false_iff_ne]; exact fun h => hq h.symm
          have HJ2 : Hid (∀ j, j < k + 1 → oneAt j ≠ (s[0].toNat : Int)) := Lib.hid fun j hj => by
            rcases Nat.lt_or_ge j k with h' | h'
            · exact HJ.out j h'
            · obtain rfl : j = k := by omega
              exact hq
          clear hq HJ
          go_wp2_with fail
          go_quiet (fail)
          go_wp2_with fail
          go_roundw
          case rel => exact ⟨k + 1, by omega, by go_num, HJ2, below_drewN HBE.out _⟩
          case measure => simp [intOf]; omega
      · obtain rfl : k = 9 := by omega
        have HQ := Lib.hid (HMI.out HJ.out)
        clear HJ
        go_wp2_with fail
        go_ret
        rw [HRR.out, HQ.out]
        exact ⟨rfl, HBE.out⟩
  · have hd : decide ((2 : Int) ≤ (s.size : Int)) = false := decide_eq_false (by omega)
    have hd2 : ¬ (2 : Int) ≤ (s.size : Int) := by omega
    clear hl b1 b2 b3 hF
    go_enter Tryz.func61, Tryz.ntmps61
    go_wp2_with fail
    refine wp_loop_rounds 4 ?_
    rw [rounds_succ]
    go_wp2_with fail
    go_quiet (fail)
    go_wp2_with fail
    rw [rounds_succ]
    go_wp2_with fail
    go_quiet (fail)
    go_wp2_with fail
    rw [rounds_succ]
    go_wp2_with fail
    go_quiet (fail)
    go_wp2_with fail
    rw [rounds_succ]
    go_wp2_with fail
    go_loopw [6] (fun v wr => ∃ k : Nat, k ≤ 9 ∧ v = .int .i64 (k : Int) ∧ Hid (∀ j, j < k → oneAt j ≠ (s[0].toNat : Int)) ∧ Below w.heap.size w wr) (fun v _ => 9 - (intOf v).toNat)
    case atStart => exact ⟨0, by omega, rfl, Lib.hid (fun j h => absurd h (Nat.not_lt_zero _)), by repeat first | exact HB.out | refine below_drewN ?_ _⟩
    case round =>
      obtain ⟨k, hk, rfl, HJ, hbel⟩ := hrel
      have HBE := Lib.hid hbel
      clear hbel
      by_cases hlt : k < 9
      · have hki : (k : Int) < 9 := by omega
        have hk0 : (0 : Int) ≤ (k : Int) := by omega
        by_cases hq : oneAt k = (s[0].toNat : Int)
        · have HQ := Lib.hid (HH.out k hlt hq)
          have hq2 : ((s[0].toNat : Int) == (((⟨#[40, 41, 91, 93, 44, 59, 61, 60, 62]⟩ : ByteArray)[k]'hlt).toNat : Int)) = true := by rw [oneAt_get k hlt, hq]; exact beq_self_eq_true _
          clear hq
          go_wp2_with fail
          go_quiet (fail)
          go_wp2_with fail
          go_ret
          rw [HRR.out, HQ.out]
          exact ⟨rfl, below_drewN HBE.out _⟩
        · have hq2 : ((s[0].toNat : Int) == (((⟨#[40, 41, 91, 93, 44, 59, 61, 60, 62]⟩ : ByteArray)[k]'hlt).toNat : Int)) = false := by rw [oneAt_get k hlt, beq_eq_false_iff_ne]; exact fun h => hq h.symm
          have HJ2 : Hid (∀ j, j < k + 1 → oneAt j ≠ (s[0].toNat : Int)) := Lib.hid fun j hj => by
            rcases Nat.lt_or_ge j k with h' | h'
            · exact HJ.out j h'
            · obtain rfl : j = k := by omega
              exact hq
          clear hq HJ
          go_wp2_with fail
          go_quiet (fail)
          go_wp2_with fail
          go_roundw
          case rel => exact ⟨k + 1, by omega, by go_num, HJ2, below_drewN HBE.out _⟩
          case measure => simp [intOf]; omega
      · obtain rfl : k = 9 := by omega
        have HQ := Lib.hid (HMI.out HJ.out)
        clear HJ
        go_wp2_with fail
        go_ret
        rw [HRR.out, HQ.out]
        exact ⟨rfl, HBE.out⟩
end
theorem refSign_any (s : ByteArray) (w : World) (hs : s.size ≤ 9223372036854775807) : Calls Tryz.prog 61 #[.string s] w fun e w' => e = .returned (.int .i64 (signN (strL s) : Int)) ∧ Below w.heap.size w w' := by
  have hlen := length_strL s
  have hF : strL (s.extract 0 2) = (strL s).take 2 := by rw [strL_extract, List.drop_zero]
  by_cases h0 : s.size = 0
  · rw [str_nil h0]
    exact refSign_none w
  · have hz : 0 < s.size := by omega
    have hg := strL_get s 0 hz
    by_cases h : (strL s).take 2 = [33, 61] ∨ (strL s).take 2 = [60, 61] ∨ (strL s).take 2 = [62, 61]
    · have h2 : 2 ≤ s.size := by
        rw [← hlen]
        rcases h with h | h | h <;> (have := congrArg List.length h; rw [List.length_take] at this; simp at this; omega)
      refine (refSign_two s _ w h2 rfl (by rw [hF]; exact h)).mono ?_
      rintro e w' ⟨rfl, hb⟩
      refine ⟨ret_int ?_, hb⟩
      match hs : strL s, h with
      | [], h => simp at h
      | [c], h => simp at h
      | c :: d :: r, h =>
        simp at h
        rw [signN, if_pos (by omega)]; rfl
    · refine (refSign_one s _ w hs hz rfl (by rw [hF]; exact fun e => h (.inl e)) (by rw [hF]; exact fun e => h (.inr (.inl e))) (by rw [hF]; exact fun e => h (.inr (.inr e)))).mono ?_
      rintro e w' ⟨rfl, hb⟩
      refine ⟨ret_int ?_, hb⟩
      rw [← hg]
      match hs : strL s, h with
      | [], h => rw [hs] at hlen; simp at hlen; omega
      | [c], h => simp only [signN, List.getD_cons_zero]; split <;> rfl
      | c :: d :: r, h =>
        have h' : ¬ (d = 61 ∧ (c = 33 ∨ c = 60 ∨ c = 62)) := fun hq => h (by
          obtain ⟨rfl, rfl | rfl | rfl⟩ := hq <;> simp)
        rw [signN, if_neg h', List.getD_cons_zero]; split <;> rfl
end Go.Proofs.YtcjfealalokjaaaGreatDoor
namespace Go.Proofs.YtcjfealalokjaaaGreatDoor
open Go Go.RowKit
/-! ### Print -/
set_option maxHeartbeats 1000000 in
theorem refPrint_pos (N : Nat) (w : World) (hN : (N : Int) ≤ 9223372036854775807) :
    Calls Tryz.prog 76 #[.int .i64 (N : Int)] w fun e w' => e = .returned (.string (toS (digL N))) ∧ Below w.heap.size w w' := by
  have hlen : (digL N).length ≤ 20 := digL_len 19 N (by omega)
  have HL := Lib.hid hlen
  have hm1 : ((N : Int) == -9223372036854775808) = false := by rw [beq_eq_false_iff_ne]; omega
  have hm2 : ¬ (N : Int) < 0 := by omega
  clear hlen
  go_enter Tryz.func76, Tryz.ntmps76
  go_wp2
  go_loopw [0, 3] (fun n v wr => ∃ (m : Nat) (suf : List Int), n = .int .i64 (m : Int) ∧ m ≤ N ∧ v = .string (toS suf) ∧ Bytes suf ∧ digL N = digL m ++ suf ∧ Below w.heap.size w wr) (fun n _ _ => (intOf n).toNat)
  case atStart => exact ⟨N, [], rfl, Nat.le_refl _, rfl, .of_mem (by simp), by simp, Below.refl _ _⟩
  case round =>
    obtain ⟨m, suf, rfl, hmN, rfl, hsuf, hdig, hbel⟩ := hrel
    have HSUF := Lib.hid hsuf
    have HDIG := Lib.hid hdig
    have HB := Lib.hid hbel
    have hsl : suf.length ≤ 20 := by have := HL.out; rw [hdig, List.length_append] at this; omega
    have hss : (toS suf).size ≤ 20 := by rw [size_toS]; exact hsl
    have hd1 : (toS [48 + (m : Int) % 10]).size = 1 := size_toS _
    have hadd : (toS [48 + (m : Int) % 10]).size + (toS suf).size ≤ 9223372036854775807 := by omega
    have hcv : ∀ W : World, (convert 73 9 (.slice (some ⟨W.heap.size, 0, none⟩) 1 1)).run Tryz.prog (W.alloc (.cells #[.int .u8 (48 + (m : Int) % 10)] 5)) = .ok (.string (toS [48 + (m : Int) % 10])) (W.alloc (.cells #[.int .u8 (48 + (m : Int) % 10)] 5)) := fun W =>
      conv_str _ [48 + (m : Int) % 10] 1 1 _ rfl (Lies.lit W _ _ _)
    have HJ : Hid (toS [48 + (m : Int) % 10] ++ toS suf = toS ((48 + (m : Int) % 10) :: suf)) := Lib.hid (by
      rw [toS_append (.of_mem (by intro x hx; simp at hx; omega)) hsuf]; rfl)
    have HSUF2 : Hid (Bytes ((48 + (m : Int) % 10) :: suf)) := Lib.hid (Bytes.append (l := [48 + (m : Int) % 10]) (.of_mem (by intro x hx; simp at hx; omega)) hsuf)
    obtain ⟨T, hT⟩ : ∃ T, T = toS [48 + (m : Int) % 10] := ⟨_, rfl⟩
    obtain ⟨U, hU⟩ : ∃ U, U = toS suf := ⟨_, rfl⟩
    rw [← hT] at hcv hadd HJ
    rw [← hU] at hadd HJ ⊢
    by_cases h10 : m < 10
    · have hq : ((m : Int) / 10 == 0) = true := by rw [beq_iff_eq]; omega
      have HR : Hid (toS (digL N) = T ++ U) := Lib.hid (by
        rw [HJ.out, HDIG.out, digL_one h10]
        congr 1
        show (48 + (m : Int)) :: suf = _
        congr 1; omega)
      clear hsuf hdig hbel hT hU hss hd1
      go_wp2
      go_ret
      rw [HR.out]
      exact ⟨rfl, HB.out.trans ((belowAlloc wr _).mono HB.out.size)⟩
    · have hq : ((m : Int) / 10 == 0) = false := by rw [beq_eq_false_iff_ne]; omega
      have HR : Hid (digL N = digL (m / 10) ++ (48 + (m : Int) % 10) :: suf) := Lib.hid (by
        rw [HDIG.out, digL_more h10, List.append_assoc]
        rfl)
      clear hsuf hdig hbel hT hU hss hd1
      go_wp2
      go_roundw
      case rel => exact ⟨m / 10, (48 + (m : Int) % 10) :: suf, by congr 1, by omega, by rw [← HJ.out], HSUF2.out, HR.out, HB.out.trans ((belowAlloc wr _).mono HB.out.size)⟩
      case measure => simp [intOf]; omega
theorem txt_min : (⟨#[45, 57, 50, 50, 51, 51, 55, 50, 48, 51, 54, 56, 53, 52, 55, 55, 53, 56, 48, 56]⟩ : ByteArray) = toS (prL (-9223372036854775808)) := by
  have h : prL (-9223372036854775808) = [45, 57, 50, 50, 51, 51, 55, 50, 48, 51, 54, 56, 53, 52, 55, 55, 53, 56, 48, 56] := by
    have := prL_numL (l := [45, 57, 50, 50, 51, 51, 55, 50, 48, 51, 54, 56, 53, 52, 55, 55, 53, 56, 48, 56]) (by decide)
    rw [show numL [45, 57, 50, 50, 51, 51, 55, 50, 48, 51, 54, 56, 53, 52, 55, 55, 53, 56, 48, 56] = -9223372036854775808 by decide] at this
    exact this
  rw [h]; rfl
theorem refPrint_any (n : Int) (w : World) (h0 : -9223372036854775808 ≤ n) (h1 : n ≤ 9223372036854775807) :
    Calls Tryz.prog 76 #[.int .i64 n] w fun e w' => e = .returned (.string (toS (prL n))) ∧ Below w.heap.size w w' := by
  by_cases hn : n < 0
  · by_cases hm : n = -9223372036854775808
    · subst hm
      rw [← txt_min]
      clear h0 h1 hn
      go_enter Tryz.func76, Tryz.ntmps76
      go_wp2
      go_ret
      exact ⟨rfl, Below.refl _ _⟩
    · obtain ⟨m, hmm⟩ : ∃ m : Nat, (m : Int) = -n := ⟨(-n).toNat, by omega⟩
      have HC := Lib.hid (fun W : World => refPrint_pos m W (by omega))
      have hpr : prL n = [45] ++ digL m := by unfold prL; rw [if_pos hn, show n.natAbs = m by omega]; rfl
      have HJ : Hid ((⟨#[45]⟩ : ByteArray) ++ toS (digL m) = toS (prL n)) := Lib.hid (by
        rw [hpr, ← toS_append (.of_mem (by decide)) (digL_bytes m)]; rfl)
      have hlen : (digL m).length ≤ 20 := digL_len 19 m (by omega)
      have hsz : (toS (digL m)).size ≤ 20 := by rw [size_toS]; exact hlen
      have hadd : (⟨#[45]⟩ : ByteArray).size + (toS (digL m)).size ≤ 9223372036854775807 := by
        have : (⟨#[45]⟩ : ByteArray).size = 1 := rfl
        omega
      have hneg : IntKind.i64.wrap (-n) = (m : Int) := by rw [IntKind.wrap_i64, hmm]; omega
      have hq : (n == -9223372036854775808) = false := by rw [beq_eq_false_iff_ne]; exact hm
      obtain ⟨T, hT⟩ : ∃ T, T = toS (digL m) := ⟨_, rfl⟩
      rw [← hT] at HC HJ hadd
      rw [hmm] at HC
      have hneg2 : -n ≤ 9223372036854775807 := by omega
      clear hpr hlen hsz hT hm h1 hmm hneg
      go_enter Tryz.func76, Tryz.ntmps76
      go_wp2_with (go_at_call 76; (with_reducible refine (HC.out w).mono ?_); rintro e w' ⟨rfl, hb⟩; have HB := Lib.hid hb; clear hb)
      go_ret
      rw [HJ.out]
      exact ⟨rfl, HB.out⟩
  · obtain ⟨m, rfl⟩ := Int.eq_ofNat_of_zero_le (show 0 ≤ n by omega)
    have := refPrint_pos m w h1
    rwa [show digL m = prL (m : Int) by unfold prL; rw [if_neg hn]; rfl] at this
end Go.Proofs.YtcjfealalokjaaaGreatDoor
