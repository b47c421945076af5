/- JsonBytes, JsonWord, DecRef, DecRefRead, JsonHex, JsonPlain: merged. -/
import Derived.Test.YtblheibknpphkaaGreatDoorBa11
import Derived.Test.YtblheibknpphkaaGreatDoorBa52
set_option linter.all false
namespace Go.Proofs.YtblheibknpphkaaGreatDoor
open Go Go.RowKit
theorem wrap64_byte (x : UInt8) : wrap64 (x.toNat : Int) = (x.toNat : Int) := by
  have := x.toNat_lt
  unfold wrap64
  omega
set_option maxHeartbeats 1000000 in
theorem refByte_any (s : ByteArray) (i : Nat) (w : World) (hs : s.size ≤ 9223372036854775807) (hi : i ≤ 9223372036854775807) :
    Calls Tryz.prog 55 #[.string s, .int .i64 (i : Int)] w fun e w' => e = .returned (.int .i64 (atL (strL s) i)) ∧ w = w' := by
  by_cases h : i < s.size
  · have HG := Lib.hid (atL_get s i h)
    have h2 : (i : Int) < (s.size : Int) := by omega
    have h3 : (0 : Int) ≤ (i : Int) := by omega
    have HW : Hid (wrap64 (s[i].toNat : Int) = (s[i].toNat : Int)) := Lib.hid (wrap64_byte s[i])
    go_enter Tryz.func55, Tryz.ntmps55
    go_wp2
    go_ret
    exact ⟨ret_int (HW.out.trans HG.out.symm), rfl⟩
  · have HG := Lib.hid (atL_end s i (by omega))
    have h2 : ¬ (i : Int) < (s.size : Int) := by omega
    clear h
    go_enter Tryz.func55, Tryz.ntmps55
    go_wp2
    go_ret
    exact ⟨ret_int HG.out.symm, rfl⟩
set_option maxHeartbeats 1000000 in
theorem refSkip_any (s : ByteArray) (i : Nat) (w : World) (hs : s.size ≤ 9223372036854775807) (hi : i ≤ s.size) :
    Calls Tryz.prog 33 #[.string s, .int .i64 (i : Int)] w fun e w' => e = .returned (.int .i64 (skipL (strL s) i : Nat)) ∧ w = w' := by
  have HI := Lib.hid hi
  clear hi
  go_enter Tryz.func33, Tryz.ntmps33
  go_wp2
  go_loop [1] (fun v => ∃ k : Nat, k ≤ s.size ∧ v = .int .i64 (k : Int) ∧ skipL (strL s) i = skipL (strL s) k) (fun v => s.size - (intOf v).toNat)
  case atStart => exact ⟨i, HI.out, rfl, rfl⟩
  case round =>
    obtain ⟨k, hk, rfl, hsk⟩ := hrel
    have HS := Lib.hid hsk
    clear hsk
    by_cases h : k < s.size
    · have HG := Lib.hid (atL_get s k h)
      have h2 : (k : Int) < (s.size : Int) := by omega
      have h3 : (0 : Int) ≤ (k : Int) := by omega
      obtain ⟨c, hc⟩ : ∃ c : Int, c = (s[k].toNat : Int) := ⟨_, rfl⟩
      have hc9 : ∀ d : Int, (s[k].toNat : Int) ≠ d → ((s[k].toNat : Int) == d) = false := fun d h => by rw [beq_eq_false_iff_ne]; exact h
      by_cases hb : isB (atL (strL s) k) = true
      · have HR := Lib.hid (skipL_blank hb)
        rw [HG.out, isB, decide_eq_true_eq] at hb
        clear hc
        by_cases b1 : (s[k].toNat : Int) = 32
        · clear hb hc9
          go_wp2
          exact ⟨⟨k + 1, by omega, by go_num, HS.out.trans HR.out⟩, by simp [intOf]; omega⟩
        · have b1' := hc9 32 b1
          by_cases b2 : (s[k].toNat : Int) = 9
          · clear hb hc9 b1
            go_wp2
            exact ⟨⟨k + 1, by omega, by go_num, HS.out.trans HR.out⟩, by simp [intOf]; omega⟩
          · have b2' := hc9 9 b2
            by_cases b3 : (s[k].toNat : Int) = 10
            · clear hb hc9 b1 b2
              go_wp2
              exact ⟨⟨k + 1, by omega, by go_num, HS.out.trans HR.out⟩, by simp [intOf]; omega⟩
            · have b3' := hc9 10 b3
              have b4 : (s[k].toNat : Int) = 13 := by omega
              clear hb hc9 b1 b2 b3
              go_wp2
              exact ⟨⟨k + 1, by omega, by go_num, HS.out.trans HR.out⟩, by simp [intOf]; omega⟩
      · have HR := Lib.hid (skipL_stop hb)
        rw [HG.out, isB, decide_eq_true_eq] at hb
        have b1 := hc9 32 (by omega)
        have b2 := hc9 9 (by omega)
        have b3 := hc9 10 (by omega)
        have b4 := hc9 13 (by omega)
        clear hc hb hc9
        go_wp2
        go_ret
        rw [HS.out, HR.out]
        exact ⟨rfl, rfl⟩
    · have HR : Hid (skipL (strL s) k = k) := Lib.hid (by rw [skipL, dif_neg (by rw [length_strL]; exact h)])
      have h2 : ¬ (k : Int) < (s.size : Int) := by omega
      clear h
      go_wp2
      go_ret
      rw [HS.out, HR.out]
      exact ⟨rfl, rfl⟩
end Go.Proofs.YtblheibknpphkaaGreatDoor
namespace Go.Proofs.YtblheibknpphkaaGreatDoor
open Go Go.RowKit
theorem refByte_at (s : ByteArray) (I : Int) (i : Nat) (w : World) (hI : I = (i : Int)) (hs : s.size ≤ 9223372036854775807) (hi : i ≤ 9223372036854775807) :
    Calls Tryz.prog 55 #[.string s, .int .i64 I] w fun e w' => e = .returned (.int .i64 (atL (strL s) i)) ∧ w = w' := by
  subst hI; exact refByte_any s i w hs hi
set_option maxHeartbeats 1000000 in
theorem refWord_any (s x : ByteArray) (i : Nat) (w : World) (hs : s.size ≤ 9223372036854775807) (hx : x.size ≤ 300) (hi : i ≤ 9223372036854770000) :
    Calls Tryz.prog 58 #[.string s, .int .i64 (i : Int), .string x] w fun e w' => e = .returned (.tuple #[.int .i64 ((wordL (strL s) i (strL x)).1 : Int), .int .i64 (wordL (strL s) i (strL x)).2]) ∧ Below w.heap.size w w' := by
  have HX := Lib.hid (length_strL x)
  go_enter Tryz.func58, Tryz.ntmps58
  go_wp2
  go_loopw [8] (fun v wr => ∃ k : Nat, k ≤ x.size ∧ v = .int .i64 (k : Int) ∧ wordL (strL s) i (strL x) = wordL (strL s) (i + k) ((strL x).drop k) ∧ Below w.heap.size w wr) (fun v _ => x.size - (intOf v).toNat)
  case atStart => exact ⟨0, by omega, rfl, rfl, Below.refl _ _⟩
  case round =>
    obtain ⟨k, hk, rfl, hrun, hbel⟩ := hrel
    have HRUN := Lib.hid hrun
    have HBE := Lib.hid hbel
    clear hrun hbel
    by_cases h : k < x.size
    · have HW := Lib.hid (wordL_drop (l := strL s) (i := i + k) (k := k) (x := strL x) (by rw [HX.out]; exact h))
      have HG := Lib.hid (strL_get x k h)
      have hwr : wrap64 ((x[k]'h).toNat : Int) = ((x[k]'h).toNat : Int) := wrap64_byte _
      have HB := Lib.hid (atL_bd s (i + k))
      obtain ⟨c, hc⟩ : ∃ c, c = atL (strL s) (i + k) := ⟨_, rfl⟩
      have HCC : Hid (∀ W : World, Calls Tryz.prog 55 #[.string s, .int .i64 ((i : Int) + (k : Int))] W fun e w' => e = .returned (.int .i64 c) ∧ w' = W) := Lib.hid fun W => by
        rw [hc]
        exact (refByte_at s _ (i + k) W (by omega) (by omega) (by omega)).mono fun _ _ (hh : _ ∧ _) => (⟨hh.1, hh.2.symm⟩ : _ ∧ _)
      rw [HG.out, ← hc] at HW
      have h0 : (0 : Int) ≤ (k : Int) := by omega
      have h2 : (k : Int) < (x.size : Int) := by omega
      clear hc
      by_cases e : c = ((x[k]'h).toNat : Int)
      · have e1 : (c == ((x[k]'h).toNat : Int)) = true := by rw [beq_iff_eq]; exact e
        have e2 : (c != ((x[k]'h).toNat : Int)) = false := by rw [bne, e1]; rfl
        have HE : Hid (wordL (strL s) (i + k) ((strL x).drop k) = wordL (strL s) (i + (k + 1)) ((strL x).drop (k + 1))) := Lib.hid (by rw [HW.out, if_pos e]; rfl)
        clear e
        go_wp2
        go_quiet ((go_at_call 55; exact Calls.quiet_of_same (HCC.out _)))
        go_wp2
        go_roundw
        case rel => exact ⟨k + 1, by omega, by go_num, HRUN.out.trans HE.out, below_drewN HBE.out _⟩
        case measure => simp [intOf]; omega
      · have e1 : (c == ((x[k]'h).toNat : Int)) = false := by rw [beq_eq_false_iff_ne]; exact e
        have e2 : (c != ((x[k]'h).toNat : Int)) = true := by rw [bne, e1]; rfl
        have HE : Hid (wordL (strL s) (i + k) ((strL x).drop k) = (i + k, 50)) := Lib.hid (by rw [HW.out, if_neg e])
        clear e
        go_wp2
        go_quiet ((go_at_call 55; exact Calls.quiet_of_same (HCC.out _)))
        go_wp2
        go_ret2
        rw [HRUN.out, HE.out]
        exact ⟨rfl, below_drewN HBE.out _⟩
    · obtain rfl : k = x.size := by omega
      have h2 : ¬ (x.size : Int) < (x.size : Int) := by omega
      have HE : Hid (wordL (strL s) (i + x.size) ((strL x).drop x.size) = (i + x.size, 0)) := Lib.hid (by rw [List.drop_eq_nil_of_le (by rw [HX.out]; exact Nat.le_refl _), wordL])
      go_wp2
      go_ret2
      rw [HRUN.out, HE.out]
      exact ⟨rfl, HBE.out⟩
end Go.Proofs.YtblheibknpphkaaGreatDoor
namespace Go.Proofs.YtblheibknpphkaaGreatDoor
open Go Go.RowKit
/-! ### Print -/
/-! ### form -/
set_option maxHeartbeats 1000000 in
theorem refForm_plain (s : ByteArray) (w : World) (hs : s.size ≤ 9223372036854775807) (h45 : (strL s).getD 0 0 ≠ 45) :
    Calls Tryz.prog 86 #[.string s] w fun e w' => e = .returned (.bool (formL (strL s))) ∧ w = w' := by
  have hlen := length_strL s
  have HF : Hid (formL (strL s) = true ↔ AllD (strL s) ∧ ((strL s).length = 1 ∨ 1 < (strL s).length ∧ (strL s).getD 0 0 ≠ 48)) := Lib.hid (formL_plain h45)
  have h0 : ∀ h : 0 < s.size, (((s[0]'h).toNat : Int) == 45) = false := fun h => by
    rw [beq_eq_false_iff_ne, ← strL_get s 0 h]; exact h45
  by_cases hz : 0 < s.size
  · have h0' := h0 hz
    have HG0 := Lib.hid (strL_get s 0 hz)
    have HL := Lib.hid hlen
    clear h0 h45 hlen
    go_enter Tryz.func86, Tryz.ntmps86
    go_wp2
    go_loop [3] (fun i => ∃ k : Nat, k ≤ s.size ∧ i = .int .i64 (k : Int) ∧ ∀ j, j < k → 48 ≤ (strL s).getD j 0 ∧ (strL s).getD j 0 ≤ 57) (fun i => s.size - (intOf i).toNat)
    case atStart => exact ⟨0, by omega, rfl, fun j hj => by omega⟩
    case round =>
      obtain ⟨k, hk, rfl, hall⟩ := hrel
      have HA := Lib.hid hall
      clear hall
      by_cases hlt : k < s.size
      · have HG := Lib.hid (strL_get s k hlt)
        by_cases hd : 48 ≤ (strL s).getD k 0 ∧ (strL s).getD k 0 ≤ 57
        · obtain ⟨hd1, hd2⟩ := hd
          have HD := Lib.hid (And.intro hd1 hd2)
          rw [HG.out] at hd1 hd2
          go_wp2
          go_round
          case rel => exact ⟨k + 1, by omega, by go_num, fun j hj => by
            rcases Nat.lt_or_ge j k with h | h
            · exact HA.out j h
            · obtain rfl : j = k := by omega
              exact HD.out⟩
          case measure => simp [intOf]; omega
        · have HR : Hid (formL (strL s) = false) := Lib.hid (by
            rw [← Bool.not_eq_true, HF.out]
            rintro ⟨h, _⟩
            exact hd (h.at k (by rw [HL.out]; exact hlt)))
          rw [HG.out] at hd
          by_cases hd1 : ((s[k]'hlt).toNat : Int) < 48
          · clear hd
            go_wp2
            go_ret
            rw [HR.out]
            exact ⟨rfl, rfl⟩
          · have hd2 : 57 < ((s[k]'hlt).toNat : Int) := by omega
            clear hd
            go_wp2
            go_ret
            rw [HR.out]
            exact ⟨rfl, rfl⟩
      · obtain rfl : k = s.size := by omega
        have HALL : Hid (AllD (strL s)) := Lib.hid (.of_at fun j hj => HA.out j (by rw [HL.out] at hj; exact hj))
        by_cases h1 : s.size = 1
        · have HR : Hid (formL (strL s) = true) := Lib.hid (HF.out.2 ⟨HALL.out, .inl (by rw [HL.out, h1])⟩)
          have h1b : ((s.size : Int) == 1) = true := by rw [beq_iff_eq]; omega
          have H1 := Lib.hid h1
          clear h1
          go_wp2
          go_ret
          rw [HR.out]
          exact ⟨rfl, rfl⟩
        · have h1b : ((s.size : Int) == 1) = false := by rw [beq_eq_false_iff_ne]; omega
          have h1c : (1 : Int) < (s.size : Int) := by omega
          by_cases h48 : (strL s).getD 0 0 = 48
          · have HR : Hid (formL (strL s) = false) := Lib.hid (by
              rw [← Bool.not_eq_true, HF.out]
              rintro ⟨_, h | ⟨_, h⟩⟩
              · rw [HL.out] at h; exact h1 h
              · exact h h48)
            have hb : (((s[0]'hz).toNat : Int) != 48) = false := by rw [← HG0.out, h48]; rfl
            clear h48 h1
            go_wp2
            go_ret
            rw [HR.out]
            exact ⟨rfl, rfl⟩
          · have HR : Hid (formL (strL s) = true) := Lib.hid (HF.out.2 ⟨HALL.out, .inr ⟨by rw [HL.out]; omega, h48⟩⟩)
            have hb : (((s[0]'hz).toNat : Int) != 48) = true := by rw [← HG0.out, bne_iff_ne]; exact h48
            clear h48 h1
            go_wp2
            go_ret
            rw [HR.out]
            exact ⟨rfl, rfl⟩
  · have e : s = ⟨#[]⟩ := strL_inj (by rw [List.eq_nil_of_length_eq_zero (hlen.trans (by omega))]; rfl)
    subst e
    clear hlen HF h0 h45 hs hz
    go_enter Tryz.func86, Tryz.ntmps86
    go_wp2
    refine wp_loop_rounds 1 ?_
    rw [rounds_succ]
    go_wp2
    go_ret
    exact ⟨rfl, rfl⟩
set_option maxHeartbeats 1000000 in
theorem refForm_any (s : ByteArray) (w : World) (hs : s.size ≤ 9223372036854775807) :
    Calls Tryz.prog 86 #[.string s] w fun e w' => e = .returned (.bool (formL (strL s))) ∧ w = w' := by
  by_cases h45 : (strL s).getD 0 0 = 45
  · have hlen := length_strL s
    have hz : 0 < s.size := by
      rcases Nat.eq_zero_or_pos s.size with h | h
      · rw [List.eq_nil_of_length_eq_zero (hlen.trans h)] at h45; simp at h45
      · exact h
    have h0 : (((s[0]'hz).toNat : Int) == 45) = true := by rw [beq_iff_eq, ← strL_get s 0 hz]; exact h45
    have hex : strL (s.extract 1 s.size) = (strL s).drop 1 := by rw [strL_extract, List.take_of_length_le (by omega)]
    have hl1 : ((strL s).drop 1).getD 0 0 = (strL s).getD 1 0 := by simp [List.getD_eq_getElem?_getD]
    have hcons : strL s = 45 :: (strL s).drop 1 := by
      cases hl : strL s with
      | nil => rw [hl] at h45; simp at h45
      | cons c r => rw [hl] at h45; rw [List.getD_cons_zero] at h45; rw [h45]; rfl
    have hd := formL_dash ((strL s).drop 1)
    rw [← hcons, hl1] at hd
    have HD := Lib.hid hd
    by_cases h1 : 1 < s.size
    · have HG1 := Lib.hid (strL_get s 1 h1)
      have hne : (strL s).drop 1 ≠ [] := fun e => by
        have := congrArg List.length e
        rw [List.length_drop, hlen] at this
        simp at this; omega
      have HNE := Lib.hid hne
      by_cases h48 : (strL s).getD 1 0 = 48
      · have HR : Hid (formL (strL s) = false) := Lib.hid (by rw [← Bool.not_eq_true, HD.out]; rintro ⟨_, h, _⟩; exact h h48)
        have hb : (((s[1]'h1).toNat : Int) != 48) = false := by rw [← HG1.out, h48]; rfl
        clear hd hne h48 hl1 hex hcons h45 hlen
        go_enter Tryz.func86, Tryz.ntmps86
        go_wp2
        go_ret
        rw [HR.out]
        exact ⟨rfl, rfl⟩
      · have hb : (((s[1]'h1).toNat : Int) != 48) = true := by rw [← HG1.out, bne_iff_ne]; exact h48
        by_cases h451 : (strL s).getD 1 0 = 45
        · have HR : Hid (formL (strL s) = false) := Lib.hid (by rw [← Bool.not_eq_true, HD.out]; rintro ⟨_, _, h, _⟩; exact h h451)
          have hb2 : (((s[1]'h1).toNat : Int) != 45) = false := by rw [← HG1.out, h451]; rfl
          clear hd hne h48 h451 hl1 hex hcons h45 hlen
          go_enter Tryz.func86, Tryz.ntmps86
          go_wp2
          go_ret
          rw [HR.out]
          exact ⟨rfl, rfl⟩
        · have hb2 : (((s[1]'h1).toNat : Int) != 45) = true := by rw [← HG1.out, bne_iff_ne]; exact h451
          have HC := Lib.hid (refForm_plain (s.extract 1 s.size) w (by rw [← length_strL, hex, List.length_drop]; omega) (by rw [hex, hl1]; exact h451))
          rw [hex] at HC
          have HR : Hid (formL ((strL s).drop 1) = formL (strL s)) := Lib.hid (by
            rw [Bool.eq_iff_iff, HD.out]
            exact ⟨fun h => ⟨HNE.out, h48, h451, h⟩, fun h => h.2.2.2⟩)
          rw [HR.out] at HC
          clear hd hne h48 h451 hl1 hex hcons h45 hlen
          go_enter Tryz.func86, Tryz.ntmps86
          go_wp2_with (go_at_call 86; (with_reducible refine HC.out.mono ?_); rintro e w' ⟨rfl, rfl⟩)
          go_ret
          exact ⟨rfl, rfl⟩
    · have h1' : s.size = 1 := by omega
      have HR : Hid (formL (strL s) = false) := Lib.hid (by
        rw [← Bool.not_eq_true, HD.out]
        rintro ⟨h, _⟩
        exact h (List.drop_eq_nil_of_le (by omega)))
      have hc : ¬ (1 : Int) < (s.size : Int) := by omega
      clear hd hl1 hex hcons h45 hlen h1'
      go_enter Tryz.func86, Tryz.ntmps86
      go_wp2
      go_ret
      rw [HR.out]
      exact ⟨rfl, rfl⟩
  · exact refForm_plain s w hs h45
/-! ### less -/
set_option maxHeartbeats 400000 in
theorem refLess_any (s t : ByteArray) (w : World) :
    Calls Tryz.prog 87 #[.string s, .string t] w fun e w' => e = .returned (.bool (lessL (strL s) (strL t))) ∧ w = w' := by
  have h1 := length_strL s
  have h2 := length_strL t
  by_cases h : s.size = t.size
  · have hb : ((s.size : Int) != (t.size : Int)) = false := by rw [h]; simp
    have HR : Hid (lessL (strL s) (strL t) = Op.bytesLess s.toList t.toList) := Lib.hid (by
      unfold lessL; rw [if_neg (by rw [h1, h2, h]; simp), bytesLess_str])
    obtain ⟨b, hbb⟩ : ∃ b, b = Op.bytesLess s.toList t.toList := ⟨_, rfl⟩
    rw [HR.out, ← hbb]
    have HBB := Lib.hid hbb
    clear h1 h2 h hbb
    go_enter Tryz.func87, Tryz.ntmps87
    go_wp2
    go_ret
    rw [HBB.out]
    exact ⟨rfl, rfl⟩
  · have hb : ((s.size : Int) != (t.size : Int)) = true := by rw [bne_iff_ne]; omega
    have HR : Hid (lessL (strL s) (strL t) = decide (s.size < t.size)) := Lib.hid (by
      unfold lessL; rw [if_pos (by rw [h1, h2]; exact h), h1, h2])
    rw [HR.out]
    clear h1 h2 h
    go_enter Tryz.func87, Tryz.ntmps87
    go_wp2
    go_ret
    exact ⟨rfl, rfl⟩
/-! ### Lead -/
set_option maxHeartbeats 1000000 in
theorem refLead_any (s : ByteArray) (w : World) (hs : s.size ≤ 9223372036854775806) :
    Calls Tryz.prog 56 #[.string s] w fun e w' => e = .returned (.int .i64 (leadL (strL s) : Int)) ∧ w = w' := by
  have HL := Lib.hid (length_strL s)
  have HF := Lib.hid (fun (k : Nat) (hk : k ≤ s.size) (W : World) => refForm_any (s.extract 0 k) W (by rw [← length_strL, strL_extract, List.drop_zero, List.length_take, length_strL]; omega))
  have HE := Lib.hid (fun (k : Nat) => show strL (s.extract 0 k) = (strL s).take k by rw [strL_extract, List.drop_zero])
  go_enter Tryz.func56, Tryz.ntmps56
  go_wp2
  go_loop [3, 4] (fun b n => ∃ k : Nat, k ≤ s.size ∧ n = .int .i64 ((k + 1 : Nat) : Int) ∧ b = .int .i64 (leadL ((strL s).take k) : Int) ∧ AllD (((strL s).take k).drop 1)) (fun _ n => s.size + 1 - (intOf n).toNat)
  case atStart => exact ⟨0, by omega, rfl, rfl, fun x hx => by simp at hx⟩
  case round =>
    obtain ⟨k, hk, rfl, rfl, hall⟩ := hrel
    have HA := Lib.hid hall
    clear hall
    by_cases hlt : k < s.size
    · have hnext : ∀ (hd : k = 0 ∨ 48 ≤ (strL s).getD k 0 ∧ (strL s).getD k 0 ≤ 57), AllD (((strL s).take (k + 1)).drop 1) := fun hd x hx => by
        rw [List.take_succ_eq_append_getElem (by rw [HL.out]; exact hlt)] at hx
        rcases Nat.eq_zero_or_pos k with h0 | h0
        · subst h0; simp at hx
        · rw [List.drop_append_of_le_length (by rw [List.length_take, HL.out]; omega)] at hx
          rcases List.mem_append.1 hx with hx | hx
          · exact HA.out x hx
          · have h1 := hd.resolve_left (by omega)
            rw [List.getD_eq_getElem?_getD, List.getElem?_eq_getElem (by rw [HL.out]; exact hlt)] at h1
            simp at hx
            subst hx
            exact h1
      have HNX := Lib.hid hnext
      have HST := Lib.hid (fun hd => leadL_step (l := strL s) (k := k) (by rw [HL.out]; exact hlt) (hnext hd))
      have HFK := Lib.hid (HF.out (k + 1) (by omega))
      rw [HE.out] at HFK
      have HG := Lib.hid (strL_get s k hlt)
      have hlt' : (k : Int) + 1 ≤ (s.size : Int) := by omega
      clear hnext
      by_cases h0 : k = 0
      · have HS1 : Hid (leadL ((strL s).take (k + 1)) = if formL ((strL s).take (k + 1)) = true then k + 1 else leadL ((strL s).take k)) := Lib.hid (HST.out (.inl h0))
        have HN1 := Lib.hid (HNX.out (.inl h0))
        have hk1 : ¬ (1 : Int) < (k : Int) + 1 := by omega
        clear h0
        obtain ⟨f, hf⟩ : ∃ f, f = formL ((strL s).take (k + 1)) := ⟨_, rfl⟩
        rw [← hf] at HFK HS1
        clear hf
        cases f
        · have HB : Hid (leadL ((strL s).take (k + 1)) = leadL ((strL s).take k)) := Lib.hid (by rw [HS1.out, if_neg (by decide)])
          go_wp2_with (go_at_call 86; (with_reducible refine (HFK.out _).mono ?_); rintro e w' ⟨rfl, rfl⟩)
          go_round
          case rel => exact ⟨k + 1, by omega, by go_num, by rw [HB.out], HN1.out⟩
          case measure => simp [intOf]; omega
        · have HB : Hid (leadL ((strL s).take (k + 1)) = k + 1) := Lib.hid (by rw [HS1.out, if_pos rfl])
          go_wp2_with (go_at_call 86; (with_reducible refine (HFK.out _).mono ?_); rintro e w' ⟨rfl, rfl⟩)
          go_round
          case rel => exact ⟨k + 1, by omega, by go_num, by rw [HB.out]; go_num, HN1.out⟩
          case measure => simp [intOf]; omega
      · have hk1 : (1 : Int) < (k : Int) + 1 := by omega
        by_cases hd : 48 ≤ (strL s).getD k 0 ∧ (strL s).getD k 0 ≤ 57
        · have HS1 : Hid (leadL ((strL s).take (k + 1)) = if formL ((strL s).take (k + 1)) = true then k + 1 else leadL ((strL s).take k)) := Lib.hid (HST.out (.inr hd))
          have HN1 := Lib.hid (HNX.out (.inr hd))
          obtain ⟨hd1, hd2⟩ := hd
          rw [HG.out] at hd1 hd2
          clear h0
          obtain ⟨f, hf⟩ : ∃ f, f = formL ((strL s).take (k + 1)) := ⟨_, rfl⟩
          rw [← hf] at HFK HS1
          clear hf
          cases f
          · have HB : Hid (leadL ((strL s).take (k + 1)) = leadL ((strL s).take k)) := Lib.hid (by rw [HS1.out, if_neg (by decide)])
            go_wp2_with (go_at_call 86; (with_reducible refine (HFK.out _).mono ?_); rintro e w' ⟨rfl, rfl⟩)
            go_round
            case rel => exact ⟨k + 1, by omega, by go_num, by rw [HB.out], HN1.out⟩
            case measure => simp [intOf]; omega
          · have HB : Hid (leadL ((strL s).take (k + 1)) = k + 1) := Lib.hid (by rw [HS1.out, if_pos rfl])
            go_wp2_with (go_at_call 86; (with_reducible refine (HFK.out _).mono ?_); rintro e w' ⟨rfl, rfl⟩)
            go_round
            case rel => exact ⟨k + 1, by omega, by go_num, by rw [HB.out]; go_num, HN1.out⟩
            case measure => simp [intOf]; omega
        · have HR : Hid (leadL ((strL s).take k) = leadL (strL s)) := Lib.hid (leadL_break (by rw [HL.out]; exact hlt) (by omega) HA.out hd).symm
          rw [HG.out] at hd
          by_cases hd1 : ((s[k]'hlt).toNat : Int) < 48
          · clear hd h0
            go_wp2
            go_ret
            rw [HR.out]
            exact ⟨rfl, rfl⟩
          · have hd2 : 57 < ((s[k]'hlt).toNat : Int) := by omega
            clear hd h0
            go_wp2
            go_ret
            rw [HR.out]
            exact ⟨rfl, rfl⟩
    · obtain rfl : k = s.size := by omega
      have HR : Hid (leadL ((strL s).take s.size) = leadL (strL s)) := Lib.hid (by rw [List.take_of_length_le (by rw [HL.out]; exact Nat.le_refl _)])
      go_wp2
      go_ret
      rw [HR.out]
      exact ⟨rfl, rfl⟩
end Go.Proofs.YtblheibknpphkaaGreatDoor
namespace Go.Proofs.YtblheibknpphkaaGreatDoor
open Go Go.RowKit
/-- What the reference's Read tells of the number z. -/
def RdOut (z least most : Int) : Value := if least ≤ z ∧ z ≤ most then .tuple #[.int .i64 z, .int .i64 0, .int .i64 (-1)] else .tuple #[.int .i64 0, .int .i64 41, .int .i64 (-1)]
theorem RdOut_in {z least most : Int} (h : least ≤ z ∧ z ≤ most) : RdOut z least most = .tuple #[.int .i64 z, .int .i64 0, .int .i64 (-1)] := if_pos h
theorem RdOut_out {z least most : Int} (h : ¬ (least ≤ z ∧ z ≤ most)) : RdOut z least most = .tuple #[.int .i64 0, .int .i64 41, .int .i64 (-1)] := if_neg h
set_option maxHeartbeats 1000000 in
theorem refRead_wrong (s : ByteArray) (least most : Int) (w : World) (hs : s.size ≤ 1000000000) (hf : formL (strL s) = false) :
    Calls Tryz.prog 57 #[.string s, .int .i64 least, .int .i64 most] w fun e w' => e = .returned (.tuple #[.int .i64 0, .int .i64 40, .int .i64 (leadL (strL s) : Int)]) ∧ w = w' := by
  have HFM := Lib.hid (fun W : World => refForm_any s W (by omega))
  rw [hf] at HFM
  have HLD := Lib.hid (fun W : World => refLead_any s W (by omega))
  clear hf
  go_enter Tryz.func57, Tryz.ntmps57
  go_wp2_with (first
    | (go_at_call 86; (with_reducible refine (HFM.out _).mono ?_); rintro e w' ⟨rfl, rfl⟩)
    | (go_at_call 56; (with_reducible refine (HLD.out _).mono ?_); rintro e w' ⟨rfl, rfl⟩))
  refine bodyPost_ret (v := .tuple #[.int .i64 0, .int .i64 40, .int .i64 (leadL (strL s) : Int)]) (by simp [results, Tryz.results57, go_sem]) rfl ⟨rfl, rfl⟩
set_option maxHeartbeats 1000000 in
theorem refRead_over_plain (s : ByteArray) (least most : Int) (w : World) (hs : s.size ≤ 1000000000) (hf : formL (strL s) = true) (h45 : (strL s).getD 0 0 ≠ 45) (hv : 9223372036854775807 < valL (strL s)) :
    Calls Tryz.prog 57 #[.string s, .int .i64 least, .int .i64 most] w fun e w' => e = .returned (.tuple #[.int .i64 0, .int .i64 41, .int .i64 (-1)]) ∧ w = w' := by
  have hlen := length_strL s
  have hz : 0 < s.size := by
    rcases Nat.eq_zero_or_pos s.size with h | h
    · rw [strL_inj (a := s) (b := ⟨#[]⟩) (by rw [List.eq_nil_of_length_eq_zero (hlen.trans h)]; rfl)] at hf
      exact absurd hf (by decide)
    · exact h
  have h0 : (((s[0]'hz).toNat : Int) == 45) = false := by rw [beq_eq_false_iff_ne, ← strL_get s 0 hz]; exact h45
  have hparts := formL_parts hf
  obtain ⟨hall, hfirst⟩ : AllD (strL s) ∧ (49 ≤ (strL s).getD 0 0 ∨ (strL s).length = 1) := by
    rcases hparts with ⟨h1, h2, h3, _⟩ | ⟨h1, h2, _, h3⟩
    · exact absurd h1 h45
    · exact ⟨h2, h3⟩
  have HFM := Lib.hid (fun W : World => refForm_any s W (by omega))
  rw [hf] at HFM
  have hex : strL s = (strL s) := rfl
  have HLS := Lib.hid (fun W : World => refLess_any ⟨#[57, 50, 50, 51, 51, 55, 50, 48, 51, 54, 56, 53, 52, 55, 55, 53, 56, 48, 55]⟩ s W)
  rw [hex, lessL_val (a := strL ⟨#[57, 50, 50, 51, 51, 55, 50, 48, 51, 54, 56, 53, 52, 55, 55, 53, 56, 48, 55]⟩) (by unfold AllD; decide) hall (by decide) hfirst (by decide), show valL (strL ⟨#[57, 50, 50, 51, 51, 55, 50, 48, 51, 54, 56, 53, 52, 55, 55, 53, 56, 48, 55]⟩) = 9223372036854775807 by decide] at HLS
  rw [decide_eq_true hv] at HLS
  clear hf hlen h45 hparts hall hfirst hex hv
  go_enter Tryz.func57, Tryz.ntmps57
  go_wp2_with (first
    | (go_at_call 86; (with_reducible refine (HFM.out _).mono ?_); rintro e w' ⟨rfl, rfl⟩)
    | (go_at_call 87; (with_reducible refine (HLS.out _).mono ?_); rintro e w' ⟨rfl, rfl⟩))
  refine bodyPost_ret (v := .tuple #[.int .i64 0, .int .i64 41, .int .i64 (-1)]) (by simp [results, Tryz.results57, go_sem]) rfl ⟨rfl, rfl⟩
set_option maxRecDepth 100000 in
set_option maxHeartbeats 4000000 in
theorem refRead_in_plain (s : ByteArray) (least most : Int) (w : World) (hs : s.size ≤ 1000000000) (hf : formL (strL s) = true) (h45 : (strL s).getD 0 0 ≠ 45) (hv : valL (strL s) ≤ 9223372036854775807) :
    Calls Tryz.prog 57 #[.string s, .int .i64 least, .int .i64 most] w fun e w' => e = .returned (RdOut (valL (strL s) : Int) least most) ∧ w = w' := by
  have hlen := length_strL s
  have hz : 0 < s.size := by
    rcases Nat.eq_zero_or_pos s.size with h | h
    · rw [strL_inj (a := s) (b := ⟨#[]⟩) (by rw [List.eq_nil_of_length_eq_zero (hlen.trans h)]; rfl)] at hf
      exact absurd hf (by decide)
    · exact h
  have h0 : (((s[0]'hz).toNat : Int) == 45) = false := by rw [beq_eq_false_iff_ne, ← strL_get s 0 hz]; exact h45
  have hparts := formL_parts hf
  obtain ⟨hall, hfirst⟩ : AllD (strL s) ∧ (49 ≤ (strL s).getD 0 0 ∨ (strL s).length = 1) := by
    rcases hparts with ⟨h1, h2, h3, _⟩ | ⟨h1, h2, _, h3⟩
    · exact absurd h1 h45
    · exact ⟨h2, h3⟩
  have HFM := Lib.hid (fun W : World => refForm_any s W (by omega))
  rw [hf] at HFM
  have hex : strL s = (strL s) := rfl
  have HLS := Lib.hid (fun W : World => refLess_any ⟨#[57, 50, 50, 51, 51, 55, 50, 48, 51, 54, 56, 53, 52, 55, 55, 53, 56, 48, 55]⟩ s W)
  rw [hex, lessL_val (a := strL ⟨#[57, 50, 50, 51, 51, 55, 50, 48, 51, 54, 56, 53, 52, 55, 55, 53, 56, 48, 55]⟩) (by unfold AllD; decide) hall (by decide) hfirst (by decide), show valL (strL ⟨#[57, 50, 50, 51, 51, 55, 50, 48, 51, 54, 56, 53, 52, 55, 55, 53, 56, 48, 55]⟩) = 9223372036854775807 by decide] at HLS
  rw [decide_eq_false (by omega)] at HLS
  have hdl : s.size = (strL s).length := by rw [← hex, length_strL]
  have hdn : (strL s).length ≤ 1000000000 := by omega
  have HALL := Lib.hid hall
  have HV := Lib.hid (fun (k : Nat) => Nat.le_trans (valL_take_le (strL s) k) hv)
  have HG := Lib.hid (fun (k : Nat) (hk : k < s.size) => strL_get s k hk)
  rw [hex] at HG
  have HST := Lib.hid (fun (k : Nat) (hk : k < (strL s).length) => show valL ((strL s).take (k + 1)) = valL ((strL s).take k) * 10 + ((strL s).getD k 0 - 48).toNat by
    rw [List.take_succ_eq_append_getElem hk, valL_snoc, List.getD_eq_getElem?_getD, List.getElem?_eq_getElem hk]; rfl)
  have HTK : Hid ((strL s).take (strL s).length = (strL s)) := Lib.hid (List.take_length)
  obtain ⟨l, hl⟩ : ∃ l, l = (strL s) := ⟨_, rfl⟩
  rw [← hl] at HV HG HST HTK HALL hdl hdn ⊢
  have hs1 : (1 : Int) ≤ (s.size : Int) := by omega
  have HSZ := Lib.hid hdl
  have hszN : s.size ≤ 1000000000 := by rw [hdl]; exact hdn
  clear hf hlen h45 hparts hall hfirst hex hv hl  hdl hdn
  go_enter Tryz.func57, Tryz.ntmps57
  go_wp2_with (first
    | (go_at_call 86; (with_reducible refine (HFM.out _).mono ?_); rintro e w' ⟨rfl, rfl⟩)
    | (go_at_call 87; (with_reducible refine (HLS.out _).mono ?_); rintro e w' ⟨rfl, rfl⟩))
  go_loop [12, 13] (fun n i => ∃ k : Nat, k ≤ l.length ∧ i = .int .i64 (k : Int) ∧ n = .int .i64 (valL (l.take k) : Int)) (fun _ i => l.length - (intOf i).toNat)
  case atStart => exact ⟨0, by omega, rfl, rfl⟩
  case round =>
    obtain ⟨k, hk, rfl, rfl⟩ := hrel
    by_cases hkl : k < l.length
    · have hlt : k < s.size := by rw [HSZ.out]; exact hkl
      have hd := HALL.out.at k hkl
      have hst := HST.out k hkl
      have hv1 := HV.out (k + 1)
      have hv0 := HV.out k
      rw [HG.out k hlt] at hd hst
      have HN : Hid ((valL (l.take (k + 1)) : Int) = (valL (l.take k) : Int) * 10 + ((((s[k]'hlt).toNat : Int)) - 48)) := Lib.hid (by rw [hst]; omega)
      have hub : (valL (l.take k) : Int) * 10 + ((((s[k]'hlt).toNat : Int)) - 48) ≤ 9223372036854775807 := by omega
      obtain ⟨v, hvv⟩ : ∃ v, v = valL (l.take k) := ⟨_, rfl⟩
      rw [← hvv] at hub hv0 HN ⊢
      obtain ⟨hd1, hd2⟩ := hd
      clear hst hvv hv1
      go_wp2
      go_round
      case rel => exact ⟨k + 1, by omega, by go_num, by rw [HN.out]⟩
      case measure => simp [intOf]; omega
    · obtain rfl : k = l.length := by omega
      have hge : ¬ l.length < s.size := by rw [HSZ.out]; omega
      have hv0 := HV.out l.length
      rw [HTK.out] at hv0 ⊢
      obtain ⟨v, hvv⟩ : ∃ v, v = valL l := ⟨_, rfl⟩
      have HSZ2 : Hid (((s.size : Nat) : Int) = (l.length : Int)) := Lib.hid (by rw [HSZ.out])
      have hgi : ¬ (l.length : Int) < (s.size : Int) := by omega
      rw [← hvv] at hv0 ⊢
      have HVV := Lib.hid hvv
      clear hvv hkl
      by_cases h1 : (v : Int) < least
      · go_wp2
        refine bodyPost_ret (v := .tuple #[.int .i64 0, .int .i64 41, .int .i64 (-1)]) (by simp [results, Tryz.results57, go_sem]) rfl ⟨?_, rfl⟩
        rw [← HVV.out, RdOut_out (by omega)]
      · by_cases h2 : most < (v : Int)
        · go_wp2
          refine bodyPost_ret (v := .tuple #[.int .i64 0, .int .i64 41, .int .i64 (-1)]) (by simp [results, Tryz.results57, go_sem]) rfl ⟨?_, rfl⟩
          rw [← HVV.out, RdOut_out (by omega)]
        · go_wp2
          refine bodyPost_ret (v := .tuple #[.int .i64 (v : Int), .int .i64 0, .int .i64 (-1)]) (by simp [results, Tryz.results57, go_sem]) rfl ⟨?_, rfl⟩
          rw [← HVV.out, RdOut_in (by omega)]
set_option maxHeartbeats 1000000 in
theorem refRead_over_dash (s : ByteArray) (least most : Int) (w : World) (hs : s.size ≤ 1000000000) (hf : formL (strL s) = true) (h45 : (strL s).getD 0 0 = 45) (hv : 9223372036854775808 < valL ((strL s).drop 1)) :
    Calls Tryz.prog 57 #[.string s, .int .i64 least, .int .i64 most] w fun e w' => e = .returned (.tuple #[.int .i64 0, .int .i64 41, .int .i64 (-1)]) ∧ w = w' := by
  have hlen := length_strL s
  have hz : 0 < s.size := by
    rcases Nat.eq_zero_or_pos s.size with h | h
    · rw [strL_inj (a := s) (b := ⟨#[]⟩) (by rw [List.eq_nil_of_length_eq_zero (hlen.trans h)]; rfl)] at hf
      exact absurd hf (by decide)
    · exact h
  have h0 : (((s[0]'hz).toNat : Int) == 45) = true := by rw [beq_iff_eq, ← strL_get s 0 hz]; exact h45
  have hparts := formL_parts hf
  obtain ⟨hall, hfirst⟩ : AllD ((strL s).drop 1) ∧ (49 ≤ ((strL s).drop 1).getD 0 0 ∨ ((strL s).drop 1).length = 1) := by
    rcases hparts with ⟨h1, h2, h3, _⟩ | ⟨h1, h2, _, h3⟩
    · exact ⟨h2, .inl h3⟩
    · exact absurd h45 h1
  have HFM := Lib.hid (fun W : World => refForm_any s W (by omega))
  rw [hf] at HFM
  have hex : strL (s.extract 1 s.size) = ((strL s).drop 1) := by rw [strL_extract, List.take_of_length_le (by omega)]
  have HLS := Lib.hid (fun W : World => refLess_any ⟨#[57, 50, 50, 51, 51, 55, 50, 48, 51, 54, 56, 53, 52, 55, 55, 53, 56, 48, 56]⟩ (s.extract 1 s.size) W)
  rw [hex, lessL_val (a := strL ⟨#[57, 50, 50, 51, 51, 55, 50, 48, 51, 54, 56, 53, 52, 55, 55, 53, 56, 48, 56]⟩) (by unfold AllD; decide) hall (by decide) hfirst (by decide), show valL (strL ⟨#[57, 50, 50, 51, 51, 55, 50, 48, 51, 54, 56, 53, 52, 55, 55, 53, 56, 48, 56]⟩) = 9223372036854775808 by decide] at HLS
  rw [decide_eq_true hv] at HLS
  clear hf hlen h45 hparts hall hfirst hex hv
  go_enter Tryz.func57, Tryz.ntmps57
  go_wp2_with (first
    | (go_at_call 86; (with_reducible refine (HFM.out _).mono ?_); rintro e w' ⟨rfl, rfl⟩)
    | (go_at_call 87; (with_reducible refine (HLS.out _).mono ?_); rintro e w' ⟨rfl, rfl⟩))
  refine bodyPost_ret (v := .tuple #[.int .i64 0, .int .i64 41, .int .i64 (-1)]) (by simp [results, Tryz.results57, go_sem]) rfl ⟨rfl, rfl⟩
set_option maxRecDepth 100000 in
set_option maxHeartbeats 4000000 in
theorem refRead_in_dash (s : ByteArray) (least most : Int) (w : World) (hs : s.size ≤ 1000000000) (hf : formL (strL s) = true) (h45 : (strL s).getD 0 0 = 45) (hv : valL ((strL s).drop 1) ≤ 9223372036854775808) :
    Calls Tryz.prog 57 #[.string s, .int .i64 least, .int .i64 most] w fun e w' => e = .returned (RdOut (-(valL ((strL s).drop 1) : Int)) least most) ∧ w = w' := by
  have hlen := length_strL s
  have hz : 0 < s.size := by
    rcases Nat.eq_zero_or_pos s.size with h | h
    · rw [strL_inj (a := s) (b := ⟨#[]⟩) (by rw [List.eq_nil_of_length_eq_zero (hlen.trans h)]; rfl)] at hf
      exact absurd hf (by decide)
    · exact h
  have h0 : (((s[0]'hz).toNat : Int) == 45) = true := by rw [beq_iff_eq, ← strL_get s 0 hz]; exact h45
  have hparts := formL_parts hf
  obtain ⟨hall, hfirst⟩ : AllD ((strL s).drop 1) ∧ (49 ≤ ((strL s).drop 1).getD 0 0 ∨ ((strL s).drop 1).length = 1) := by
    rcases hparts with ⟨h1, h2, h3, _⟩ | ⟨h1, h2, _, h3⟩
    · exact ⟨h2, .inl h3⟩
    · exact absurd h45 h1
  have HFM := Lib.hid (fun W : World => refForm_any s W (by omega))
  rw [hf] at HFM
  have hex : strL (s.extract 1 s.size) = ((strL s).drop 1) := by rw [strL_extract, List.take_of_length_le (by omega)]
  have HLS := Lib.hid (fun W : World => refLess_any ⟨#[57, 50, 50, 51, 51, 55, 50, 48, 51, 54, 56, 53, 52, 55, 55, 53, 56, 48, 56]⟩ (s.extract 1 s.size) W)
  rw [hex, lessL_val (a := strL ⟨#[57, 50, 50, 51, 51, 55, 50, 48, 51, 54, 56, 53, 52, 55, 55, 53, 56, 48, 56]⟩) (by unfold AllD; decide) hall (by decide) hfirst (by decide), show valL (strL ⟨#[57, 50, 50, 51, 51, 55, 50, 48, 51, 54, 56, 53, 52, 55, 55, 53, 56, 48, 56]⟩) = 9223372036854775808 by decide] at HLS
  rw [decide_eq_false (by omega)] at HLS
  have hdl : (s.extract 1 s.size).size = ((strL s).drop 1).length := by rw [← hex, length_strL]
  have hdn : ((strL s).drop 1).length ≤ 1000000000 := by rw [List.length_drop]; omega
  have HALL := Lib.hid hall
  have HV := Lib.hid (fun (k : Nat) => Nat.le_trans (valL_take_le ((strL s).drop 1) k) hv)
  have HG := Lib.hid (fun (k : Nat) (hk : k < (s.extract 1 s.size).size) => strL_get (s.extract 1 s.size) k hk)
  rw [hex] at HG
  have HST := Lib.hid (fun (k : Nat) (hk : k < ((strL s).drop 1).length) => show valL (((strL s).drop 1).take (k + 1)) = valL (((strL s).drop 1).take k) * 10 + (((strL s).drop 1).getD k 0 - 48).toNat by
    rw [List.take_succ_eq_append_getElem hk, valL_snoc, List.getD_eq_getElem?_getD, List.getElem?_eq_getElem hk]; rfl)
  have HTK : Hid (((strL s).drop 1).take ((strL s).drop 1).length = ((strL s).drop 1)) := Lib.hid (List.take_length)
  obtain ⟨l, hl⟩ : ∃ l, l = ((strL s).drop 1) := ⟨_, rfl⟩
  rw [← hl] at HV HG HST HTK HALL hdl hdn ⊢
  obtain ⟨D, hD⟩ : ∃ D, D = s.extract 1 s.size := ⟨_, rfl⟩
  rw [← hD] at HLS HG hdl
  have HDD := Lib.hid hD
  have hs1 : (1 : Int) ≤ (s.size : Int) := by omega
  have HSZ := Lib.hid hdl
  have hszN : D.size ≤ 1000000000 := by rw [hdl]; exact hdn
  clear hf hlen h45 hparts hall hfirst hex hv hl hD hdl hdn
  go_enter Tryz.func57, Tryz.ntmps57
  go_wp2_with (first
    | (go_at_call 86; (with_reducible refine (HFM.out _).mono ?_); rintro e w' ⟨rfl, rfl⟩)
    | (go_at_call 87; rw [← HDD.out]; (with_reducible refine (HLS.out _).mono ?_); rintro e w' ⟨rfl, rfl⟩))
  go_loop [12, 13] (fun n i => ∃ k : Nat, k ≤ l.length ∧ i = .int .i64 (k : Int) ∧ n = .int .i64 (-(valL (l.take k) : Int))) (fun _ i => l.length - (intOf i).toNat)
  case atStart => exact ⟨0, by omega, rfl, rfl⟩
  case round =>
    obtain ⟨k, hk, rfl, rfl⟩ := hrel
    by_cases hkl : k < l.length
    · have hlt : k < D.size := by rw [HSZ.out]; exact hkl
      have hd := HALL.out.at k hkl
      have hst := HST.out k hkl
      have hv1 := HV.out (k + 1)
      have hv0 := HV.out k
      rw [HG.out k hlt] at hd hst
      have HN : Hid ((-(valL (l.take (k + 1)) : Int)) = -(valL (l.take k) : Int) * 10 - ((((D[k]'hlt).toNat : Int)) - 48)) := Lib.hid (by rw [hst]; omega)
      have hub : (valL (l.take k) : Int) * 10 + ((((D[k]'hlt).toNat : Int)) - 48) ≤ 9223372036854775808 := by omega
      obtain ⟨v, hvv⟩ : ∃ v, v = valL (l.take k) := ⟨_, rfl⟩
      rw [← hvv] at hub hv0 HN ⊢
      obtain ⟨hd1, hd2⟩ := hd
      clear hst hvv hv1
      go_wp2
      go_round
      case rel => exact ⟨k + 1, by omega, by go_num, by rw [HN.out]⟩
      case measure => simp [intOf]; omega
    · obtain rfl : k = l.length := by omega
      have hge : ¬ l.length < D.size := by rw [HSZ.out]; omega
      have hv0 := HV.out l.length
      rw [HTK.out] at hv0 ⊢
      obtain ⟨v, hvv⟩ : ∃ v, v = valL l := ⟨_, rfl⟩
      have HSZ2 : Hid (((D.size : Nat) : Int) = (l.length : Int)) := Lib.hid (by rw [HSZ.out])
      have hgi : ¬ (l.length : Int) < (D.size : Int) := by omega
      rw [← hvv] at hv0 ⊢
      have HVV := Lib.hid hvv
      clear hvv hkl
      by_cases h1 : (-(v : Int)) < least
      · go_wp2
        refine bodyPost_ret (v := .tuple #[.int .i64 0, .int .i64 41, .int .i64 (-1)]) (by simp [results, Tryz.results57, go_sem]) rfl ⟨?_, rfl⟩
        rw [← HVV.out, RdOut_out (by omega)]
      · by_cases h2 : most < (-(v : Int))
        · go_wp2
          refine bodyPost_ret (v := .tuple #[.int .i64 0, .int .i64 41, .int .i64 (-1)]) (by simp [results, Tryz.results57, go_sem]) rfl ⟨?_, rfl⟩
          rw [← HVV.out, RdOut_out (by omega)]
        · go_wp2
          refine bodyPost_ret (v := .tuple #[.int .i64 (-(v : Int)), .int .i64 0, .int .i64 (-1)]) (by simp [results, Tryz.results57, go_sem]) rfl ⟨?_, rfl⟩
          rw [← HVV.out, RdOut_in (by omega)]
/-- What the document asks of Read. -/
def readsL (l : List Int) (least most : Int) : Value := if formL l = true then (if fitL l least most = true then .tuple #[.int .i64 (numL l), .int .i64 0, .int .i64 (-1)] else .tuple #[.int .i64 0, .int .i64 41, .int .i64 (-1)]) else .tuple #[.int .i64 0, .int .i64 40, .int .i64 (leadL l : Int)]
theorem refRead_anyN (s : ByteArray) (least most : Int) (w : World) (hs : s.size ≤ 1000000000) (h0 : -9223372036854775808 ≤ least) (h1 : most ≤ 9223372036854775807) :
    Calls Tryz.prog 57 #[.string s, .int .i64 least, .int .i64 most] w fun e w' => e = .returned (readsL (strL s) least most) ∧ w = w' := by
  unfold readsL
  by_cases hf : formL (strL s) = true
  · rw [if_pos hf]
    by_cases h45 : (strL s).getD 0 0 = 45
    · have hn : numL (strL s) = -(valL ((strL s).drop 1) : Int) := by unfold numL; rw [if_pos h45]
      rcases Nat.lt_or_ge 9223372036854775808 (valL ((strL s).drop 1)) with hv | hv
      · rw [if_neg (by unfold fitL; rw [decide_eq_true_eq, hn]; omega)]
        exact refRead_over_dash s least most w hs hf h45 hv
      · have := refRead_in_dash s least most w hs hf h45 hv
        rw [← hn] at this
        by_cases hft : fitL (strL s) least most = true
        · rw [if_pos hft]
          unfold fitL at hft
          rw [decide_eq_true_eq] at hft
          rwa [RdOut_in hft.2.2] at this
        · rw [if_neg hft]
          unfold fitL at hft
          rw [decide_eq_true_eq] at hft
          rwa [RdOut_out (by omega)] at this
    · have hn : numL (strL s) = (valL (strL s) : Int) := by unfold numL; rw [if_neg h45]
      rcases Nat.lt_or_ge 9223372036854775807 (valL (strL s)) with hv | hv
      · rw [if_neg (by unfold fitL; rw [decide_eq_true_eq, hn]; omega)]
        exact refRead_over_plain s least most w hs hf h45 hv
      · have := refRead_in_plain s least most w hs hf h45 hv
        rw [← hn] at this
        by_cases hft : fitL (strL s) least most = true
        · rw [if_pos hft]
          unfold fitL at hft
          rw [decide_eq_true_eq] at hft
          rwa [RdOut_in hft.2.2] at this
        · rw [if_neg hft]
          unfold fitL at hft
          rw [decide_eq_true_eq] at hft
          rwa [RdOut_out (by omega)] at this
  · rw [if_neg hf]
    exact refRead_wrong s least most w hs (by simpa using hf)
end Go.Proofs.YtblheibknpphkaaGreatDoor
namespace Go.Proofs.YtblheibknpphkaaGreatDoor
open Go Go.RowKit
set_option maxRecDepth 100000 in
set_option maxHeartbeats 2000000 in
theorem refHex_any (s : ByteArray) (i : Nat) (w : World) (hs : s.size ≤ 9223372036854775807) (hi : i ≤ 9223372036854770000) :
    Calls Tryz.prog 90 #[.string s, .int .i64 (i : Int)] w fun e w' => e = .returned (.tuple #[.int .i64 (hexL (strL s) 4 i 0).1, .int .i64 (hexL (strL s) 4 i 0).2]) ∧ Below w.heap.size w w' := by
  have HL := Lib.hid (length_strL s)
  go_enter Tryz.func90, Tryz.ntmps90
  go_wp2
  go_loopw [6, 7] (fun u v wr => ∃ (j : Nat) (n : Int), j ≤ 4 ∧ v = .int .i64 ((i : Int) + (j : Int)) ∧ u = .int .i64 n ∧ 0 ≤ n ∧ n < 16 ^ j ∧ hexL (strL s) 4 i 0 = hexL (strL s) (4 - j) (i + j) n ∧ Below w.heap.size w wr) (fun _ v _ => i + 4 - (intOf v).toNat)
  case atStart => exact ⟨0, 0, by omega, by simp, rfl, by omega, by decide, rfl, Below.refl _ _⟩
  case round =>
    obtain ⟨j, n, hj, rfl, rfl, hn0, hnj, hrun, hbel⟩ := hrel
    have HRUN := Lib.hid hrun
    have HBE := Lib.hid hbel
    have HNJ := Lib.hid hnj
    have hn4 : n ≤ 65536 := by
      have : j = 0 ∨ j = 1 ∨ j = 2 ∨ j = 3 ∨ j = 4 := by omega
      rcases this with rfl | rfl | rfl | rfl | rfl <;> omega
    clear hrun hbel hnj
    by_cases h : j < 4
    · have h2 : (i : Int) + (j : Int) < (i : Int) + 4 := by omega
      obtain ⟨c, hc⟩ : ∃ c, c = atL (strL s) (i + j) := ⟨_, rfl⟩
      have hb := atL_bd s (i + j)
      rw [← hc] at hb
      obtain ⟨hb0, hb1⟩ := hb
      have HCC : Hid (∀ W : World, Calls Tryz.prog 55 #[.string s, .int .i64 ((i : Int) + (j : Int))] W fun e w' => e = .returned (.int .i64 c) ∧ w' = W) := Lib.hid fun W => by
        rw [hc]
        exact (refByte_at s _ (i + j) W (by omega) (by omega) (by omega)).mono fun _ _ (hh : _ ∧ _) => (⟨hh.1, hh.2.symm⟩ : _ ∧ _)
      have HST : Hid (hexL (strL s) (4 - j) (i + j) n = if hexD c < 0 then (-1, ((min (i + j) s.size : Nat) : Int)) else hexL (strL s) (4 - (j + 1)) (i + (j + 1)) (16 * n + hexD c)) := Lib.hid (by
        rw [show 4 - j = (4 - (j + 1)) + 1 by omega, hexL, ← hc, HL.out]; rfl)
      have HB1 : Hid (∀ d : Int, d ≤ 15 → 16 * n + d < 16 ^ (j + 1)) := Lib.hid fun d hd => by have := HNJ.out; rw [Int.pow_succ]; omega
      clear hc
      have hsplit : (c < 48) ∨ (48 ≤ c ∧ c ≤ 57) ∨ (58 ≤ c ∧ c ≤ 64) ∨ (65 ≤ c ∧ c ≤ 70) ∨ (71 ≤ c ∧ c ≤ 96) ∨ (97 ≤ c ∧ c ≤ 102) ∨ (103 ≤ c) := by omega
      rcases hsplit with hv | hv | hv | hv | hv | hv | hv
      · have t0 : ¬ 48 ≤ c := by omega
        have t1 : c ≤ 57 := by omega
        have t2 : ¬ 97 ≤ c := by omega
        have t3 : c ≤ 102 := by omega
        have t4 : ¬ 65 ≤ c := by omega
        have t5 : c ≤ 70 := by omega
        have HD : Hid (hexD c = -1) := Lib.hid (by unfold hexD; rw [if_neg (by omega), if_neg (by omega), if_neg (by omega)])
        have HR : Hid (hexL (strL s) 4 i 0 = (-1, ((min (i + j) s.size : Nat) : Int))) := Lib.hid (by rw [HRUN.out, HST.out, HD.out, if_pos (by decide)])
        have hneg : (-1 : Int) < 0 := by decide
        clear hv
        go_wp2_with (go_at_call 55; (with_reducible refine (HCC.out _).mono ?_); rintro e w' ⟨rfl, rfl⟩)
        all_goals go_ret2
        all_goals rw [HR.out]
        · rw [show min (i + j) s.size = s.size by omega]; exact ⟨rfl, HBE.out⟩
        · rw [show min (i + j) s.size = i + j by omega]; exact ⟨rfl, HBE.out⟩
      · have t0 : 48 ≤ c := by omega
        have t1 : c ≤ 57 := by omega
        have t2 : ¬ 97 ≤ c := by omega
        have t3 : c ≤ 102 := by omega
        have t4 : ¬ 65 ≤ c := by omega
        have t5 : c ≤ 70 := by omega
        have HD : Hid (hexD c = c - 48) := Lib.hid (by unfold hexD; rw [if_pos (by omega)])
        have HR : Hid (hexL (strL s) 4 i 0 = hexL (strL s) (4 - (j + 1)) (i + (j + 1)) (16 * n + (c - 48))) := Lib.hid (by rw [HRUN.out, HST.out, HD.out, if_neg (by omega)])
        have hnn : ¬ (c - 48) < 0 := by omega
        clear hv
        go_wp2_with (go_at_call 55; (with_reducible refine (HCC.out _).mono ?_); rintro e w' ⟨rfl, rfl⟩)
        go_roundw
        case rel => exact ⟨j + 1, 16 * n + (c - 48), by omega, by go_num, by go_num, by omega, HB1.out _ (by omega), HR.out, HBE.out⟩
        case measure => simp [intOf]; omega
      · have t0 : 48 ≤ c := by omega
        have t1 : ¬ c ≤ 57 := by omega
        have t2 : ¬ 97 ≤ c := by omega
        have t3 : c ≤ 102 := by omega
        have t4 : ¬ 65 ≤ c := by omega
        have t5 : c ≤ 70 := by omega
        have HD : Hid (hexD c = -1) := Lib.hid (by unfold hexD; rw [if_neg (by omega), if_neg (by omega), if_neg (by omega)])
        have HR : Hid (hexL (strL s) 4 i 0 = (-1, ((min (i + j) s.size : Nat) : Int))) := Lib.hid (by rw [HRUN.out, HST.out, HD.out, if_pos (by decide)])
        have hneg : (-1 : Int) < 0 := by decide
        clear hv
        go_wp2_with (go_at_call 55; (with_reducible refine (HCC.out _).mono ?_); rintro e w' ⟨rfl, rfl⟩)
        all_goals go_ret2
        all_goals rw [HR.out]
        · rw [show min (i + j) s.size = s.size by omega]; exact ⟨rfl, HBE.out⟩
        · rw [show min (i + j) s.size = i + j by omega]; exact ⟨rfl, HBE.out⟩
      · have t0 : 48 ≤ c := by omega
        have t1 : ¬ c ≤ 57 := by omega
        have t2 : ¬ 97 ≤ c := by omega
        have t3 : c ≤ 102 := by omega
        have t4 : 65 ≤ c := by omega
        have t5 : c ≤ 70 := by omega
        have HD : Hid (hexD c = c - 65 + 10) := Lib.hid (by unfold hexD; rw [if_neg (by omega), if_neg (by omega), if_pos (by omega)])
        have HR : Hid (hexL (strL s) 4 i 0 = hexL (strL s) (4 - (j + 1)) (i + (j + 1)) (16 * n + (c - 65 + 10))) := Lib.hid (by rw [HRUN.out, HST.out, HD.out, if_neg (by omega)])
        have hnn : ¬ (c - 65 + 10) < 0 := by omega
        clear hv
        go_wp2_with (go_at_call 55; (with_reducible refine (HCC.out _).mono ?_); rintro e w' ⟨rfl, rfl⟩)
        go_roundw
        case rel => exact ⟨j + 1, 16 * n + (c - 65 + 10), by omega, by go_num, by go_num, by omega, HB1.out _ (by omega), HR.out, HBE.out⟩
        case measure => simp [intOf]; omega
      · have t0 : 48 ≤ c := by omega
        have t1 : ¬ c ≤ 57 := by omega
        have t2 : ¬ 97 ≤ c := by omega
        have t3 : c ≤ 102 := by omega
        have t4 : 65 ≤ c := by omega
        have t5 : ¬ c ≤ 70 := by omega
        have HD : Hid (hexD c = -1) := Lib.hid (by unfold hexD; rw [if_neg (by omega), if_neg (by omega), if_neg (by omega)])
        have HR : Hid (hexL (strL s) 4 i 0 = (-1, ((min (i + j) s.size : Nat) : Int))) := Lib.hid (by rw [HRUN.out, HST.out, HD.out, if_pos (by decide)])
        have hneg : (-1 : Int) < 0 := by decide
        clear hv
        go_wp2_with (go_at_call 55; (with_reducible refine (HCC.out _).mono ?_); rintro e w' ⟨rfl, rfl⟩)
        all_goals go_ret2
        all_goals rw [HR.out]
        · rw [show min (i + j) s.size = s.size by omega]; exact ⟨rfl, HBE.out⟩
        · rw [show min (i + j) s.size = i + j by omega]; exact ⟨rfl, HBE.out⟩
      · have t0 : 48 ≤ c := by omega
        have t1 : ¬ c ≤ 57 := by omega
        have t2 : 97 ≤ c := by omega
        have t3 : c ≤ 102 := by omega
        have t4 : 65 ≤ c := by omega
        have t5 : ¬ c ≤ 70 := by omega
        have HD : Hid (hexD c = c - 97 + 10) := Lib.hid (by unfold hexD; rw [if_neg (by omega), if_pos (by omega)])
        have HR : Hid (hexL (strL s) 4 i 0 = hexL (strL s) (4 - (j + 1)) (i + (j + 1)) (16 * n + (c - 97 + 10))) := Lib.hid (by rw [HRUN.out, HST.out, HD.out, if_neg (by omega)])
        have hnn : ¬ (c - 97 + 10) < 0 := by omega
        clear hv
        go_wp2_with (go_at_call 55; (with_reducible refine (HCC.out _).mono ?_); rintro e w' ⟨rfl, rfl⟩)
        go_roundw
        case rel => exact ⟨j + 1, 16 * n + (c - 97 + 10), by omega, by go_num, by go_num, by omega, HB1.out _ (by omega), HR.out, HBE.out⟩
        case measure => simp [intOf]; omega
      · have t0 : 48 ≤ c := by omega
        have t1 : ¬ c ≤ 57 := by omega
        have t2 : 97 ≤ c := by omega
        have t3 : ¬ c ≤ 102 := by omega
        have t4 : 65 ≤ c := by omega
        have t5 : ¬ c ≤ 70 := by omega
        have HD : Hid (hexD c = -1) := Lib.hid (by unfold hexD; rw [if_neg (by omega), if_neg (by omega), if_neg (by omega)])
        have HR : Hid (hexL (strL s) 4 i 0 = (-1, ((min (i + j) s.size : Nat) : Int))) := Lib.hid (by rw [HRUN.out, HST.out, HD.out, if_pos (by decide)])
        have hneg : (-1 : Int) < 0 := by decide
        clear hv
        go_wp2_with (go_at_call 55; (with_reducible refine (HCC.out _).mono ?_); rintro e w' ⟨rfl, rfl⟩)
        all_goals go_ret2
        all_goals rw [HR.out]
        · rw [show min (i + j) s.size = s.size by omega]; exact ⟨rfl, HBE.out⟩
        · rw [show min (i + j) s.size = i + j by omega]; exact ⟨rfl, HBE.out⟩
    · obtain rfl : j = 4 := by omega
      have HR : Hid (hexL (strL s) 4 i 0 = (n, 0)) := Lib.hid (by rw [HRUN.out]; rfl)
      have h2 : ¬ (i : Int) + 4 < (i : Int) + 4 := by omega
      go_wp2
      go_ret2
      rw [HR.out]
      exact ⟨rfl, HBE.out⟩
end Go.Proofs.YtblheibknpphkaaGreatDoor
namespace Go.Proofs.YtblheibknpphkaaGreatDoor
open Go Go.RowKit
theorem conv_lit (x : Int) (W : World) : (convert 31 9 (.slice (some ⟨W.heap.size, 0, none⟩) 1 1)).run Tryz.prog (W.alloc (.cells #[.int .u8 x] 5)) = .ok (.string (toS [x])) (W.alloc (.cells #[.int .u8 x] 5)) :=
  conv_str _ [x] 1 1 _ rfl (Lies.lit W _ _ _)
set_option maxHeartbeats 2000000 in
theorem refPlain_any (c : Int) (w : World) : Calls Tryz.prog 89 #[.int .i64 c] w fun e w' => e = .returned (.string (toS (plainL c))) ∧ Below w.heap.size w w' := by
  by_cases h : c = 34 ∨ c = 92 ∨ c = 47 ∨ c = 98 ∨ c = 102 ∨ c = 110 ∨ c = 114 ∨ c = 116
  · rcases h with rfl | rfl | rfl | rfl | rfl | rfl | rfl | rfl
    · rw [show plainL 34 = [34] by decide]
      have hcv := fun W => conv_lit 34 W
      obtain ⟨T, hT⟩ : ∃ T, T = toS [34] := ⟨_, rfl⟩
      rw [← hT] at hcv ⊢
      clear hT
      go_enter Tryz.func89, Tryz.ntmps89
      go_wp2
      go_ret
      exact ⟨rfl, belowAlloc _ _⟩
    · rw [show plainL 92 = [92] by decide]
      have hcv := fun W => conv_lit 92 W
      obtain ⟨T, hT⟩ : ∃ T, T = toS [92] := ⟨_, rfl⟩
      rw [← hT] at hcv ⊢
      clear hT
      go_enter Tryz.func89, Tryz.ntmps89
      go_wp2
      go_ret
      exact ⟨rfl, belowAlloc _ _⟩
    · rw [show plainL 47 = [47] by decide]
      have hcv := fun W => conv_lit 47 W
      obtain ⟨T, hT⟩ : ∃ T, T = toS [47] := ⟨_, rfl⟩
      rw [← hT] at hcv ⊢
      clear hT
      go_enter Tryz.func89, Tryz.ntmps89
      go_wp2
      go_ret
      exact ⟨rfl, belowAlloc _ _⟩
    · rw [show plainL 98 = [8] by decide]
      have hcv := fun W => conv_lit 8 W
      obtain ⟨T, hT⟩ : ∃ T, T = toS [8] := ⟨_, rfl⟩
      rw [← hT] at hcv ⊢
      clear hT
      go_enter Tryz.func89, Tryz.ntmps89
      go_wp2
      go_ret
      exact ⟨rfl, belowAlloc _ _⟩
    · rw [show plainL 102 = [12] by decide]
      have hcv := fun W => conv_lit 12 W
      obtain ⟨T, hT⟩ : ∃ T, T = toS [12] := ⟨_, rfl⟩
      rw [← hT] at hcv ⊢
      clear hT
      go_enter Tryz.func89, Tryz.ntmps89
      go_wp2
      go_ret
      exact ⟨rfl, belowAlloc _ _⟩
    · rw [show plainL 110 = [10] by decide]
      have hcv := fun W => conv_lit 10 W
      obtain ⟨T, hT⟩ : ∃ T, T = toS [10] := ⟨_, rfl⟩
      rw [← hT] at hcv ⊢
      clear hT
      go_enter Tryz.func89, Tryz.ntmps89
      go_wp2
      go_ret
      exact ⟨rfl, belowAlloc _ _⟩
    · rw [show plainL 114 = [13] by decide]
      have hcv := fun W => conv_lit 13 W
      obtain ⟨T, hT⟩ : ∃ T, T = toS [13] := ⟨_, rfl⟩
      rw [← hT] at hcv ⊢
      clear hT
      go_enter Tryz.func89, Tryz.ntmps89
      go_wp2
      go_ret
      exact ⟨rfl, belowAlloc _ _⟩
    · rw [show plainL 116 = [9] by decide]
      have hcv := fun W => conv_lit 9 W
      obtain ⟨T, hT⟩ : ∃ T, T = toS [9] := ⟨_, rfl⟩
      rw [← hT] at hcv ⊢
      clear hT
      go_enter Tryz.func89, Tryz.ntmps89
      go_wp2
      go_ret
      exact ⟨rfl, belowAlloc _ _⟩
  · rw [show plainL c = [] by unfold plainL; rw [if_neg (by omega), if_neg (by omega), if_neg (by omega), if_neg (by omega), if_neg (by omega), if_neg (by omega)]]
    have n0 : (c == 34) = false := by rw [beq_eq_false_iff_ne]; omega
    have n1 : (c == 92) = false := by rw [beq_eq_false_iff_ne]; omega
    have n2 : (c == 47) = false := by rw [beq_eq_false_iff_ne]; omega
    have n3 : (c == 98) = false := by rw [beq_eq_false_iff_ne]; omega
    have n4 : (c == 102) = false := by rw [beq_eq_false_iff_ne]; omega
    have n5 : (c == 110) = false := by rw [beq_eq_false_iff_ne]; omega
    have n6 : (c == 114) = false := by rw [beq_eq_false_iff_ne]; omega
    have n7 : (c == 116) = false := by rw [beq_eq_false_iff_ne]; omega
    clear h
    go_enter Tryz.func89, Tryz.ntmps89
    go_wp2
    go_ret
    exact ⟨rfl, Below.refl _ _⟩
end Go.Proofs.YtblheibknpphkaaGreatDoor
