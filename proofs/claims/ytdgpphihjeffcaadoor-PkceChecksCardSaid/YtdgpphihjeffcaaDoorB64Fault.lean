/- The walks of package b64's joinSigns, fault, Right. -/
import Derived.Test.YtdgpphihjeffcaaDoorB64Small
import Derived.LoopTactic
namespace Go.Proofs.YtdgpphihjeffcaaDoor
open Go Go.RowKit

/-- The bits of signs, behind k of them. -/
def joinSk (l : List Int) : Nat → Int
  | 0 => 0
  | k + 1 => joinSk l k * 64 + (if k < l.length then wo (l.getD k 0) else 0)
def Good (l : List Int) : Prop := ∀ k, k < l.length → wo (l.getD k 0) ≠ 64
theorem joinSk_bd (l : List Int) (h : Good l) : ∀ k, k ≤ 4 → 0 ≤ joinSk l k ∧ joinSk l k < 64 ^ k
  | 0, _ => ⟨Int.le_refl _, by show (0 : Int) < 64 ^ 0; decide⟩
  | k + 1, hk => by
    obtain ⟨h0, h1⟩ := joinSk_bd l h k (by omega)
    have hw : 0 ≤ (if k < l.length then wo (l.getD k 0) else 0) ∧ (if k < l.length then wo (l.getD k 0) else 0) < 64 := by
      split
      · rename_i hk
        have := h k hk
        have := wo_bd (l.getD k 0)
        omega
      · decide
    have : (64 : Int) ^ (k + 1) = 64 ^ k * 64 := by rw [Int.pow_succ]
    rw [joinSk, this]
    omega
set_option maxHeartbeats 400000 in
theorem joinSigns_any (s : ByteArray) (w : World) (_hs : s.size ≤ 4) (hg : Good (strL s)) :
    Calls Tryd.prog 51 #[.string s] w fun e w' => e = .returned (.int .u32 (joinSk (strL s) 4)) ∧ w = w' := by
  have HG := Lib.hid hg
  clear hg
  go_enter Tryd.func51, Tryd.ntmps51
  go_wp2
  go_loop [3, 5] (fun v i => ∃ k : Nat, k ≤ 4 ∧ i = .int .i64 k ∧ v = .int .u32 (joinSk (strL s) k)) (fun _ i => 4 - (intOf i).toNat)
  case atStart => exact ⟨0, by omega, rfl, rfl⟩
  case round =>
    obtain ⟨k, hk, rfl, rfl⟩ := hrel
    by_cases hlt : k < 4
    · have HB := joinSk_bd (strL s) HG.out k hk
      have hx : 0 ≤ joinSk (strL s) k ∧ joinSk (strL s) k ≤ 262143 := by
        have : k = 0 ∨ k = 1 ∨ k = 2 ∨ k = 3 := by omega
        rcases this with rfl | rfl | rfl | rfl <;> constructor <;> omega
      obtain ⟨x0, x1⟩ := hx
      clear HB
      by_cases hks : k < s.size
      · have hgk := HG.out k (by rw [length_strL]; exact hks)
        have hwb := wo_bd ((strL s).getD k 0)
        rw [strL_get s k hks] at hgk hwb
        have HS : Hid (joinSk (strL s) (k + 1) = joinSk (strL s) k * 64 + wo (s[k].toNat : Int)) := Lib.hid (by rw [joinSk, if_pos (by rw [length_strL]; exact hks), strL_get s k hks])
        have hb : (s[k].toNat : Int) ≤ 255 := by have := s[k].toNat_lt; omega
        have HO : Hid (bits .or .u32 (joinSk (strL s) k * 64) (wo (s[k].toNat : Int)) = joinSk (strL s) k * 64 + wo (s[k].toNat : Int)) := Lib.hid (or_6' _ _ (by omega) (by omega))
        obtain ⟨w0, w1⟩ := hwb
        obtain ⟨y, hy⟩ : ∃ y, y = wo (s[k].toNat : Int) := ⟨_, rfl⟩
        have W := worth_any (s[k].toNat : Int) w (by omega) hb
        rw [← hy] at w0 w1 HS HO W
        obtain ⟨x, hxx⟩ : ∃ x, x = joinSk (strL s) k := ⟨_, rfl⟩
        rw [← hxx] at x0 x1 HS HO ⊢
        have HW := Lib.hid W
        clear hgk hy hxx W
        go_wp2_with (go_at_call 60; refine HW.out.mono ?_; rintro e w' ⟨rfl, rfl⟩)
        go_round
        case rel => exact ⟨k + 1, by omega, by go_num, by rw [HS.out, HO.out]⟩
        case measure => simp [intOf]; omega
      · have HS : Hid (joinSk (strL s) (k + 1) = joinSk (strL s) k * 64 + 0) := Lib.hid (by rw [joinSk, if_neg (by rw [length_strL]; exact hks)])
        obtain ⟨x, hxx⟩ : ∃ x, x = joinSk (strL s) k := ⟨_, rfl⟩
        rw [← hxx] at x0 x1 HS ⊢
        clear hxx
        go_wp2
        go_round
        case rel => exact ⟨k + 1, by omega, by go_num, by rw [HS.out, Int.add_zero]⟩
        case measure => simp [intOf]; omega
    · have hk4 : k = 4 := by omega
      subst hk4
      go_wp2
      go_ret
      exact ⟨rfl, rfl⟩

/-- What fault tells. -/
def FaultRes (s : ByteArray) (w : World) (e : Ending) (w' : World) : Prop :=
  (faultL (strL s) = -1 ∧ e = .returned .nilIface ∧ w' = w) ∨
  (0 ≤ faultL (strL s) ∧ e = .returned (.iface 118 (.pointer (some ⟨w.heap.size, 0, none⟩))) ∧ w' = w.alloc (.cells (AtCells (faultL (strL s)) 20) 120))
theorem FaultRes.at {s : ByteArray} {w : World} {p : Int} (h : faultL (strL s) = p) (h0 : 0 ≤ p) : FaultRes s w (.returned (.iface 118 (.pointer (some ⟨w.heap.size, 0, none⟩)))) (w.alloc (.cells (AtCells p 20) 120)) :=
  .inr ⟨by omega, rfl, by rw [h]⟩
theorem fault_long (s : ByteArray) (w : World) (hs : s.size ≤ 9223372036854775807) (h : 65536 < s.size) :
    Calls Tryd.prog 50 #[.string s] w fun e w' => e = .returned (.iface 33 (.int .i64 2)) ∧ w = w' := by
  go_enter Tryd.func50, Tryd.ntmps50
  go_wp2
  go_ret
  exact ⟨rfl, rfl⟩
set_option maxHeartbeats 1000000 in
theorem fault_any (s : ByteArray) (w : World) (h : s.size ≤ 65536) :
    Calls Tryd.prog 50 #[.string s] w (FaultRes s w) := by
  have HL := badL_le (strL s)
  rw [length_strL] at HL
  have HG := Lib.hid (badL_good (strL s))
  have HBd := Lib.hid (badL_bad (strL s))
  obtain ⟨q, hq⟩ : ∃ q, q = badL (strL s) := ⟨_, rfl⟩
  have HF : Hid (faultL (strL s) = if q < s.size then (q : Int) else if s.size % 4 = 0 then -1 else if s.size % 4 = 1 then (s.size : Int) else if looseL (strL s) = 0 then -1 else (s.size : Int) - 1) := Lib.hid (by
    unfold faultL; rw [← hq, length_strL])
  rw [← hq] at HL HG HBd
  clear hq
  go_enter Tryd.func50, Tryd.ntmps50
  go_wp2
  go_loop [12] (fun i => ∃ k : Nat, k ≤ q ∧ i = .int .i64 k) (fun i => q - (intOf i).toNat)
  case atStart => exact ⟨0, by omega, rfl⟩
  case round =>
    obtain ⟨k, hk, rfl⟩ := hrel
    by_cases hlt : k < s.size
    · have hb : (s[k].toNat : Int) ≤ 255 := by have := s[k].toNat_lt; omega
      have hwb := wo_bd (s[k].toNat : Int)
      have HW := Lib.hid (worth_any (s[k].toNat : Int) w (by omega) hb)
      by_cases hkq : k < q
      · have hne : ((wo (s[k].toNat : Int)) == 64) = false := by
          have := HG.out k hkq
          rw [strL_get s k hlt] at this
          simpa using this
        go_wp2_with (go_at_call 60; refine HW.out.mono ?_; rintro e w' ⟨rfl, rfl⟩)
        go_round
        case rel => exact ⟨k + 1, by omega, by go_num⟩
        case measure => simp [intOf]; omega
      · have hkk : k = q := by omega
        have he : ((wo (s[k].toNat : Int)) == 64) = true := by
          have := HBd.out (by rw [length_strL]; omega)
          rw [← hkk, strL_get s k hlt] at this
          simpa using this
        have HP : Hid (faultL (strL s) = (k : Int)) := Lib.hid (by rw [HF.out, if_pos (by omega)]; omega)
        clear hkk
        go_wp2_with (first
          | (go_at_call 60; refine HW.out.mono ?_; rintro e w' ⟨rfl, rfl⟩)
          | (go_at_call 61; refine (at_any _ _).mono ?_; rintro e w' ⟨rfl, rfl⟩))
        go_ret
        exact FaultRes.at HP.out (by omega)
    · have hqs : ¬ q < s.size := by omega
      by_cases m0 : s.size % 4 = 0
      · have HP : Hid (faultL (strL s) = -1) := Lib.hid (by rw [HF.out, if_neg hqs, if_pos m0])
        have b0 : (((s.size : Int) % 4) == 0) = true := by simp; omega
        clear m0
        go_wp2
        go_ret
        exact .inl ⟨HP.out, rfl, rfl⟩
      · have b0 : (((s.size : Int) % 4) == 0) = false := by simp; omega
        by_cases m1 : s.size % 4 = 1
        · have HP : Hid (faultL (strL s) = (s.size : Int)) := Lib.hid (by rw [HF.out, if_neg hqs, if_neg m0, if_pos m1])
          have b1 : (((s.size : Int) % 4) == 1) = true := by simp; omega
          clear m0 m1
          go_wp2_with (go_at_call 61; refine (at_any _ _).mono ?_; rintro e w' ⟨rfl, rfl⟩)
          go_ret
          exact FaultRes.at HP.out (by omega)
        · have m2 : s.size % 4 = 2 ∨ s.size % 4 = 3 := by omega
          have hl : s.size - 1 < s.size := by omega
          have hb : (s[s.size - 1].toNat : Int) ≤ 255 := by have := s[s.size - 1].toNat_lt; omega
          have HW := Lib.hid (worth_any (s[s.size - 1].toNat : Int) w (by omega) hb)
          have hwb := wo_bd (s[s.size - 1].toNat : Int)
          obtain ⟨y, hy⟩ : ∃ y, y = wo (s[s.size - 1].toNat : Int) := ⟨_, rfl⟩
          rw [← hy] at hwb
          obtain ⟨y0, y1⟩ := hwb
          rcases m2 with m2 | m2
          · have e2 : (s.size : Int) % 4 = 2 := by omega
            have HLo : Hid (looseL (strL s) = y % 16) := Lib.hid (by rw [looseL, length_strL, strL_get s (s.size - 1) hl, if_pos m2, hy])
            have HA : Hid (bits .and .i64 y 15 = y % 16) := Lib.hid (and_mask_i64 y 4 (by decide) y0 (by omega))
            obtain ⟨r, hr⟩ : ∃ r, r = y % 16 := ⟨_, rfl⟩
            have hr0 : 0 ≤ r := by omega
            rw [← hr] at HLo HA
            have HW2 : Hid (Calls Tryd.prog 60 #[.int .u8 (s[s.size - 1].toNat : Int)] w fun e w' => e = .returned (.int .i64 y) ∧ w = w') := Lib.hid (by rw [hy]; exact HW.out)
            have ha := HA.out
            clear hy hr m0 m1 b0 HW HA m2
            by_cases hz : r = 0
            · have HP : Hid (faultL (strL s) = -1) := Lib.hid (by rw [HF.out, if_neg hqs, if_neg (by omega), if_neg (by omega), if_pos (by rw [HLo.out]; exact hz)])
              subst hz
              go_wp2_with (first
                | (go_at_call 60; refine HW2.out.mono ?_; rintro e w' ⟨rfl, rfl⟩)
                | (go_at_call 62; refine (loose_two _).mono ?_; rintro e w' ⟨rfl, rfl⟩))
              go_ret
              exact .inl ⟨HP.out, rfl, rfl⟩
            · have HP : Hid (faultL (strL s) = (s.size : Int) - 1) := Lib.hid (by rw [HF.out, if_neg hqs, if_neg (by omega), if_neg (by omega), if_neg (by rw [HLo.out]; exact hz)])
              have hz2 : (r != 0) = true := by simpa using hz
              clear hz
              go_wp2_with (first
                | (go_at_call 60; refine HW2.out.mono ?_; rintro e w' ⟨rfl, rfl⟩)
                | (go_at_call 62; refine (loose_two _).mono ?_; rintro e w' ⟨rfl, rfl⟩)
                | (go_at_call 61; refine (at_any _ _).mono ?_; rintro e w' ⟨rfl, rfl⟩))
              go_ret
              exact FaultRes.at HP.out (by omega)
          · have e2 : (s.size : Int) % 4 = 3 := by omega
            have HLo : Hid (looseL (strL s) = y % 4) := Lib.hid (by rw [looseL, length_strL, strL_get s (s.size - 1) hl, if_neg (by omega), hy])
            have HA : Hid (bits .and .i64 y 3 = y % 4) := Lib.hid (and_mask_i64 y 2 (by decide) y0 (by omega))
            obtain ⟨r, hr⟩ : ∃ r, r = y % 4 := ⟨_, rfl⟩
            have hr0 : 0 ≤ r := by omega
            rw [← hr] at HLo HA
            have HW2 : Hid (Calls Tryd.prog 60 #[.int .u8 (s[s.size - 1].toNat : Int)] w fun e w' => e = .returned (.int .i64 y) ∧ w = w') := Lib.hid (by rw [hy]; exact HW.out)
            have ha := HA.out
            clear hy hr m0 m1 b0 HW HA m2
            by_cases hz : r = 0
            · have HP : Hid (faultL (strL s) = -1) := Lib.hid (by rw [HF.out, if_neg hqs, if_neg (by omega), if_neg (by omega), if_pos (by rw [HLo.out]; exact hz)])
              subst hz
              go_wp2_with (first
                | (go_at_call 60; refine HW2.out.mono ?_; rintro e w' ⟨rfl, rfl⟩)
                | (go_at_call 62; refine (loose_three _).mono ?_; rintro e w' ⟨rfl, rfl⟩))
              go_ret
              exact .inl ⟨HP.out, rfl, rfl⟩
            · have HP : Hid (faultL (strL s) = (s.size : Int) - 1) := Lib.hid (by rw [HF.out, if_neg hqs, if_neg (by omega), if_neg (by omega), if_neg (by rw [HLo.out]; exact hz)])
              have hz2 : (r != 0) = true := by simpa using hz
              clear hz
              go_wp2_with (first
                | (go_at_call 60; refine HW2.out.mono ?_; rintro e w' ⟨rfl, rfl⟩)
                | (go_at_call 62; refine (loose_three _).mono ?_; rintro e w' ⟨rfl, rfl⟩)
                | (go_at_call 61; refine (at_any _ _).mono ?_; rintro e w' ⟨rfl, rfl⟩))
              go_ret
              exact FaultRes.at HP.out (by omega)
theorem fault_right (s : ByteArray) (w : World) (h : s.size ≤ 65536) (hf : faultL (strL s) = -1) :
    Calls Tryd.prog 50 #[.string s] w fun e w' => e = .returned .nilIface ∧ w = w' :=
  (fault_any s w h).mono fun e w' hr => by
    rcases hr with ⟨_, he, hw⟩ | ⟨h0, _, _⟩
    · exact ⟨he, hw.symm⟩
    · omega
theorem fault_wrong (s : ByteArray) (w : World) (h : s.size ≤ 65536) (hf : ¬ faultL (strL s) = -1) :
    Calls Tryd.prog 50 #[.string s] w fun e w' => e = .returned (.iface 118 (.pointer (some ⟨w.heap.size, 0, none⟩))) ∧ w' = w.alloc (.cells (AtCells (faultL (strL s)) 20) 120) :=
  (fault_any s w h).mono fun e w' hr => by
    rcases hr with ⟨h0, _, _⟩ | ⟨_, he, hw⟩
    · exact absurd h0 hf
    · exact ⟨he, hw⟩
end Go.Proofs.YtdgpphihjeffcaaDoor
