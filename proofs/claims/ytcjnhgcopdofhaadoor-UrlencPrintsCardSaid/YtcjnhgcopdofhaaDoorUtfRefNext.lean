/- The walks of the reference's Next and Bad. -/
import Derived.Test.YtcjnhgcopdofhaaDoorUtfRef
namespace Go.Proofs.YtcjnhgcopdofhaaDoor
open Go Go.RowKit

/-- No letter of fewer than k bytes begins here. -/
def NoneBelow (l : List Int) (k : Nat) : Prop := ∀ q, 1 ≤ q → q < k → q ≤ l.length → ¬ putL (refC l q) = l.take q
theorem NoneBelow.step {l : List Int} {k : Nat} (h : NoneBelow l k) (hk : ¬ putL (refC l k) = l.take k) : NoneBelow l (k + 1) := fun q h1 h2 h3 => by
  rcases Nat.lt_or_ge q k with hq | hq
  · exact h q h1 hq h3
  · obtain rfl : q = k := by omega
    exact hk
def refM (k : Nat) : Int := if k = 1 then 256 else if k = 2 then 32 else if k = 3 then 16 else 8
theorem refNext_empty (w : World) :
    Calls Tryd.prog 39 #[.string ⟨#[]⟩] w fun e w' => e = .returned (.tuple #[.int .i64 (-1), .int .i64 0]) ∧ Below w.heap.size w w' := by
  go_enter Tryd.func39, Tryd.ntmps39
  go_wp2
  go_ret2
  exact ⟨rfl, Below.refl _ _⟩
set_option maxRecDepth 100000 in
set_option maxHeartbeats 4000000 in
theorem refNext_some (s : ByteArray) (w : World) (h0 : 0 < s.size) (hsz : s.size ≤ 9223372036854775807) :
    Calls Tryd.prog 39 #[.string s] w fun e w' => e = .returned (.tuple #[.int .i64 (nxL (strL s)).1, .int .i64 ((nxL (strL s)).2 : Int)]) ∧ Below w.heap.size w w' := by
  have hlen := length_strL s
  have HNE : Hid (strL s ≠ []) := Lib.hid (fun e => by rw [e] at hlen; simp at hlen; omega)
  have HL := Lib.hid hlen
  have hz : ((s.size : Int) == 0) = false := by rw [beq_eq_false_iff_ne]; omega
  clear hlen
  go_enter Tryd.func39, Tryd.ntmps39
  go_wp2
  go_loopw [4] (fun v wr => ∃ (k : Nat) (K : Int), 1 ≤ k ∧ k ≤ 5 ∧ K = (k : Int) ∧ v = .int .i64 K ∧ NoneBelow (strL s) k ∧ Below w.heap.size w wr) (fun v _ => 5 - (intOf v).toNat)
  case atStart => exact ⟨1, 1, by omega, by omega, rfl, rfl, fun q h1 h2 _ => by omega, Below.refl _ _⟩
  case round =>
    obtain ⟨k, K, hk1, hk5, hK, rfl, hno, hbel⟩ := hrel
    have HNO := Lib.hid hno
    have HB := Lib.hid hbel
    have HK := Lib.hid hK
    have hK1 : 1 ≤ K := by omega
    by_cases hin : K ≤ 4 ∧ K ≤ (s.size : Int)
    · obtain ⟨hK4, hKs⟩ := hin
      have hs0 := (s[0]'h0).toNat_lt
      have HG0 := Lib.hid (strL_get s 0 h0)
      have h4 : K = 1 ∨ K = 2 ∨ K = 3 ∨ K = 4 := by omega
      obtain ⟨c0, hcc⟩ : ∃ c0 : Int, c0 = (strL s).getD 0 0 % refM k := ⟨_, rfl⟩
      have hc0 : 0 ≤ c0 ∧ c0 ≤ 255 := by
        rw [hcc, HG0.out]; unfold refM; split <;> (try split) <;> (try split) <;> omega
      have HC0 := Lib.hid hcc
      have HA := Lib.hid (accL_bd c0 (strL s) hc0)
      have HREF : Hid (refC (strL s) k = accL c0 (strL s) (k - 1)) := Lib.hid (by rw [HC0.out]; rfl)
      have hin2 : k ≤ s.size := by have := HK.out; omega
      have hk4 : k ≤ 4 := by have := HK.out; omega
      obtain ⟨HSW, hsw'⟩ : Hid (c0 = if K = 1 then ((s[0]'h0).toNat : Int) else if K = 2 then ((s[0]'h0).toNat : Int) % 32 else if K = 3 then ((s[0]'h0).toNat : Int) % 16 else ((s[0]'h0).toNat : Int) % 8) ∧
          ((K == 2) = false ∧ (K == 3) = false ∧ (K == 4) = false ∧ K = 1 ∨ (K == 2) = true ∧ K = 2 ∨ (K == 2) = false ∧ (K == 3) = true ∧ K = 3 ∨ (K == 2) = false ∧ (K == 3) = false ∧ (K == 4) = true ∧ K = 4) := by
        rcases h4 with e | e | e | e
        · obtain rfl : k = 1 := by omega
          exact ⟨Lib.hid (by rw [hcc, HG0.out, if_pos e]; show _ % 256 = _; omega), .inl ⟨by rw [e]; rfl, by rw [e]; rfl, by rw [e]; rfl, e⟩⟩
        · obtain rfl : k = 2 := by omega
          exact ⟨Lib.hid (by rw [hcc, HG0.out, if_neg (by omega), if_pos e]; rfl), .inr (.inl ⟨by rw [e]; rfl, e⟩)⟩
        · obtain rfl : k = 3 := by omega
          exact ⟨Lib.hid (by rw [hcc, HG0.out, if_neg (by omega), if_neg (by omega), if_pos e]; rfl), .inr (.inr (.inl ⟨by rw [e]; rfl, by rw [e]; rfl, e⟩))⟩
        · obtain rfl : k = 4 := by omega
          exact ⟨Lib.hid (by rw [hcc, HG0.out, if_neg (by omega), if_neg (by omega), if_neg (by omega)]; rfl), .inr (.inr (.inr ⟨by rw [e]; rfl, by rw [e]; rfl, by rw [e]; rfl, e⟩))⟩
      clear hno hbel hK h4 hc0 hcc
      rcases hsw' with ⟨q2, q3, q4, hKK⟩ | ⟨q2, hKK⟩ | ⟨q2, q3, hKK⟩ | ⟨q2, q3, q4, hKK⟩
      all_goals
        have HKK := Lib.hid hKK
        clear hKK
        go_wp2
        go_loop [5, 6] (fun x i => ∃ j : Nat, j + 1 ≤ k ∧ i = .int .i64 ((j + 1 : Nat) : Int) ∧ x = .int .i64 (accL c0 (strL s) j)) (fun _ i => k - (intOf i).toNat)
        case atStart => exact ⟨0, by omega, rfl, by rw [accL, HSW.out, HKK.out]; rfl⟩
        case round =>
          obtain ⟨j, hj, rfl, rfl⟩ := hrel
          by_cases hlt : j + 1 < k
          · have hltK : (j : Int) + 1 < K := by have := HK.out; omega
            have ha := HA.out j
            have h64 := pow64 j (by omega)
            have ha2 : accL c0 (strL s) j < 140737488355328 := by omega
            obtain ⟨ha1, _⟩ := ha
            have HN : Hid (accL c0 (strL s) (j + 1) = accL c0 (strL s) j * 64 + ((s[j + 1]'(by omega)).toNat : Int) % 64) := Lib.hid (by rw [accL, strL_get s (j + 1) (by omega)])
            obtain ⟨x, hx⟩ : ∃ x, x = accL c0 (strL s) j := ⟨_, rfl⟩
            rw [← hx] at ha1 ha2 HN ⊢
            have hu := (s[j + 1]'(by omega)).toNat_lt
            clear hx h64
            go_wp2
            go_round
            case rel => exact ⟨j + 1, by omega, by go_num, by rw [HN.out]⟩
            case measure => simp [intOf]; omega
          · have hltK : ¬ (j : Int) + 1 < K := by have := HK.out; omega
            obtain rfl : k = j + 1 := by omega
            have HP := Lib.hid (fun W : World => refPut_any (accL c0 (strL s) j) W)
            rw [Nat.add_sub_cancel] at HREF
            have b0 : (0 : Int) ≤ K := by omega
            have b2 : K.toNat = j + 1 := by have := HK.out; omega
            by_cases hp : putL (accL c0 (strL s) j) = (strL s).take (j + 1)
            · have HR : Hid (nxL (strL s) = (accL c0 (strL s) j, j + 1)) := Lib.hid (by
                have := ref_hit (l := strL s) (k := j + 1) (by omega) (by rw [HL.out]; omega) (by rw [HREF.out]; exact hp)
                rw [HREF.out] at this
                exact this)
              have heq : ((toS (putL (accL c0 (strL s) j))).toList == (s.extract 0 (j + 1)).toList) = true := by
                rw [eq_toList, decide_eq_true_eq, hp]
                exact strL_inj (by rw [strL_toS ((strL_bd s).take _), strL_extract, List.drop_zero])
              obtain ⟨x, hx⟩ : ∃ x, x = accL c0 (strL s) j := ⟨_, rfl⟩
              rw [← hx] at heq HR HP ⊢
              obtain ⟨T, hT⟩ : ∃ T, T = toS (putL x) := ⟨_, rfl⟩
              rw [← hT] at heq HP
              clear hp hx hT HREF
              go_wp2_with fail
              go_region_held3 (fun W => Below wr.heap.size wr W) (first | exact (Below.refl _ _).drew | exact Below.trans (by assumption) (hb.mono (Below.size (by assumption))) | go_keep)
                (first | (go_at_call 54; refine (HP.out _).mono ?_; rintro e w' ⟨rfl, hb⟩))
              have HW' := Lib.hid (‹Below wr.heap.size wr _›)
              clear b0 b2 hb
              go_wp2_with fail
              go_ret2
              rw [HR.out, HK.out]
              exact ⟨rfl, HB.out.trans (HW'.out.mono HB.out.size)⟩
            · have HNX : Hid (NoneBelow (strL s) (j + 1 + 1)) := Lib.hid (HNO.out.step (by rw [HREF.out]; exact hp))
              have heq : ((toS (putL (accL c0 (strL s) j))).toList == (s.extract 0 (j + 1)).toList) = false := by
                rw [eq_toList, decide_eq_false_iff_not]
                intro e
                have e2 := (eq_toS (putL_bytes _)).1 e.symm
                rw [strL_extract, List.drop_zero] at e2
                exact hp e2.symm
              obtain ⟨x, hx⟩ : ∃ x, x = accL c0 (strL s) j := ⟨_, rfl⟩
              rw [← hx] at heq HP ⊢
              obtain ⟨T, hT⟩ : ∃ T, T = toS (putL x) := ⟨_, rfl⟩
              rw [← hT] at heq HP
              clear hp hx hT HREF
              go_wp2_with fail
              go_region_held3 (fun W => Below wr.heap.size wr W) (first | exact (Below.refl _ _).drew | exact Below.trans (by assumption) (hb.mono (Below.size (by assumption))) | go_keep)
                (first | (go_at_call 54; refine (HP.out _).mono ?_; rintro e w' ⟨rfl, hb⟩))
              have HW' := Lib.hid (‹Below wr.heap.size wr _›)
              clear b0 b2 hb
              go_wp2_with fail
              go_roundw
              case rel => exact ⟨j + 1 + 1, K + 1, by omega, by omega, by have := HK.out; omega, rfl, HNX.out, HB.out.trans (HW'.out.mono HB.out.size)⟩
              case measure => simp [intOf]; omega
    · have HR : Hid (nxL (strL s) = (-1, 1)) := Lib.hid (ref_miss HNE.out (fun q h1 h2 h3 => HNO.out q h1 (by have := HK.out; have := HL.out; omega) h3))
      have hd : ¬ (K ≤ 4 ∧ K ≤ (s.size : Int)) := hin
      by_cases h4 : K ≤ 4
      · have h5 : ¬ K ≤ (s.size : Int) := fun h => hin ⟨h4, h⟩
        clear hin hd hno hbel hK
        go_wp2
        go_ret2
        rw [HR.out]
        exact ⟨rfl, HB.out⟩
      · clear hin hd hno hbel hK
        go_wp2
        go_ret2
        rw [HR.out]
        exact ⟨rfl, HB.out⟩
theorem refNext_any (s : ByteArray) (w : World) (hsz : s.size ≤ 9223372036854775807) :
    Calls Tryd.prog 39 #[.string s] w fun e w' => e = .returned (.tuple #[.int .i64 (nxL (strL s)).1, .int .i64 ((nxL (strL s)).2 : Int)]) ∧ Below w.heap.size w w' := by
  rcases Nat.eq_zero_or_pos s.size with h0 | h0
  · have e : s = ⟨#[]⟩ := strL_inj (by rw [List.eq_nil_of_length_eq_zero ((length_strL s).trans h0)]; rfl)
    subst e
    exact refNext_empty w
  · exact refNext_some s w h0 hsz

/-! ### Bad -/
/-- What Bad tells. -/
def badR (l : List Int) : Int := if badU l = l.length then -1 else (badU l : Int)
set_option maxHeartbeats 1000000 in
theorem refBad_any (s : ByteArray) (w : World) (hsz : s.size ≤ 9223372036854775807) :
    Calls Tryd.prog 25 #[.string s] w fun e w' => e = .returned (.int .i64 (badR (strL s))) ∧ Below w.heap.size w w' := by
  go_enter Tryd.func25, Tryd.ntmps25
  go_wp2
  go_loopw [3] (fun v wr => ∃ k : Nat, k ≤ s.size ∧ v = .int .i64 (k : Int) ∧ badU (strL s) = k + badU ((strL s).drop k) ∧ Below w.heap.size w wr) (fun v _ => s.size - (intOf v).toNat)
  case atStart => exact ⟨0, by omega, rfl, by simp, Below.refl _ _⟩
  case round =>
    obtain ⟨k, hk, rfl, hbad, hbel⟩ := hrel
    have HBAD := Lib.hid hbad
    have HB := Lib.hid hbel
    clear hbad hbel
    by_cases hlt : k < s.size
    · have hex : strL (s.extract k s.size) = (strL s).drop k := by rw [strL_extract, List.take_of_length_le (by rw [length_strL]; omega)]
      have HN := Lib.hid (refNext_any (s.extract k s.size) wr (by rw [← length_strL, hex, List.length_drop, length_strL]; omega))
      rw [hex] at HN
      have hbd := nx_bd ((strL s).drop k)
      have hll : ((strL s).drop k).length = s.size - k := by rw [List.length_drop, length_strL]
      rw [hll] at hbd
      by_cases hn : (nxL ((strL s).drop k)).1 = -1
      · have HR : Hid (badR (strL s) = (k : Int)) := Lib.hid (by
          unfold badR
          have := HBAD.out
          rw [badU_stop hn] at this
          rw [if_neg (by rw [length_strL]; omega), this]; simp)
        obtain ⟨n, hnn⟩ : ∃ n, n = (nxL ((strL s).drop k)).2 := ⟨_, rfl⟩
        rw [hn, ← hnn] at HN
        clear hn hnn hbd hex hll HBAD
        go_wp2_with (go_at_call 39; refine HN.out.mono ?_; rintro e w' ⟨rfl, hb⟩; have HB2 := Lib.hid (HB.out.trans (hb.mono HB.out.size)); clear hb)
        go_ret
        exact ⟨ret_int HR.out.symm, HB2.out⟩
      · have HR : Hid (badU (strL s) = (k + (nxL ((strL s).drop k)).2) + badU ((strL s).drop (k + (nxL ((strL s).drop k)).2))) := Lib.hid (badU_from HBAD.out hn)
        have hf := nx_found hn
        rw [hll] at hf
        obtain ⟨n, hnn⟩ : ∃ n, n = (nxL ((strL s).drop k)).2 := ⟨_, rfl⟩
        obtain ⟨x, hx⟩ : ∃ x, x = (nxL ((strL s).drop k)).1 := ⟨_, rfl⟩
        rw [← hnn, ← hx] at HN hf
        rw [← hnn] at HR
        obtain ⟨_, _, hn1, hn2, hn3, hx0, _⟩ := hf
        clear hn hnn hbd hex hll hx
        go_wp2_with (go_at_call 39; refine HN.out.mono ?_; rintro e w' ⟨rfl, hb⟩; have HB2 := Lib.hid (HB.out.trans (hb.mono HB.out.size)); clear hb)
        go_roundw
        case rel => exact ⟨k + n, by omega, by go_num, HR.out, HB2.out⟩
        case measure => simp [intOf]; omega
    · obtain rfl : k = s.size := by omega
      have HR : Hid (badR (strL s) = -1) := Lib.hid (by
        unfold badR
        have := HBAD.out
        rw [show (strL s).drop s.size = [] from List.drop_eq_nil_of_le (by rw [length_strL]; exact Nat.le_refl _), show badU [] = 0 from rfl] at this
        rw [if_pos (by rw [length_strL]; omega)])
      clear HBAD
      go_wp2
      go_ret
      exact ⟨ret_int HR.out.symm, HB.out⟩
end Go.Proofs.YtcjnhgcopdofhaaDoor
