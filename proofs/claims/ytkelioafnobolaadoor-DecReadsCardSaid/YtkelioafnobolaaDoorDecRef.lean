/- The walks of the reference's Print, form, less, Lead, Read. -/
import Derived.Test.YtkelioafnobolaaDoorDecMath2
import Derived.WalkLawsBesides
import Derived.WalkSpells
import Derived.Handy
import Derived.RegionTactic
import Derived.LoopTactic
import Derived.BigQuiet
import Derived.Deep.QuietTactic
import Derived.Deep.RegionHeld3
import Derived.StillTailTactics
import Derived.IntWalk
namespace Go.Proofs.YtkelioafnobolaaDoor
open Go Go.RowKit

/-! ### Print -/
set_option maxHeartbeats 1000000 in
theorem refPrint_pos (N : Nat) (w : World) (hN : (N : Int) ≤ 9223372036854775807) :
    Calls Tryd.prog 9 #[.int .i64 (N : Int)] w fun e w' => e = .returned (.string (toS (digL N))) ∧ Below w.heap.size w w' := by
  have hlen : (digL N).length ≤ 20 := digL_len 19 N (by omega)
  have HL := Lib.hid hlen
  have hm1 : ((N : Int) == -9223372036854775808) = false := by rw [beq_eq_false_iff_ne]; omega
  have hm2 : ¬ (N : Int) < 0 := by omega
  clear hlen
  go_enter Tryd.func9, Tryd.ntmps9
  go_wp2
  go_loopw [0, 3] (fun n v wr => ∃ (m : Nat) (suf : List Int), n = .int .i64 (m : Int) ∧ m ≤ N ∧ v = .string (toS suf) ∧ Bytes suf ∧ digL N = digL m ++ suf ∧ Below w.heap.size w wr) (fun n _ _ => (intOf n).toNat)
  case atStart => exact ⟨N, [], rfl, Nat.le_refl _, rfl, .of_mem (by simp), by simp, Below.refl _ _⟩
  case round =>
    obtain ⟨m, suf, rfl, hmN, rfl, hsuf, hdig, hbel⟩ := hrel
    have HSUF := Lib.hid hsuf
    have HDIG := Lib.hid hdig
    have HB := Lib.hid hbel
    have hsl : suf.length ≤ 20 := by have := HL.out; rw [hdig, List.length_append] at this; omega
    have hss : (toS suf).size ≤ 20 := by rw [size_toS]; exact hsl
    have hd1 : (toS [48 + (m : Int) % 10]).size = 1 := size_toS _
    have hadd : (toS [48 + (m : Int) % 10]).size + (toS suf).size ≤ 9223372036854775807 := by omega
    have hcv : ∀ W : World, (convert 38 9 (.slice (some ⟨W.heap.size, 0, none⟩) 1 1)).run Tryd.prog (W.alloc (.cells #[.int .u8 (48 + (m : Int) % 10)] 5)) = .ok (.string (toS [48 + (m : Int) % 10])) (W.alloc (.cells #[.int .u8 (48 + (m : Int) % 10)] 5)) := fun W =>
      conv_str _ [48 + (m : Int) % 10] 1 1 _ rfl (Lies.lit W _ _ _)
    have HJ : Hid (toS [48 + (m : Int) % 10] ++ toS suf = toS ((48 + (m : Int) % 10) :: suf)) := Lib.hid (by
      rw [toS_append (.of_mem (by intro x hx; simp at hx; omega)) hsuf]; rfl)
    have HSUF2 : Hid (Bytes ((48 + (m : Int) % 10) :: suf)) := Lib.hid (Bytes.append (l := [48 + (m : Int) % 10]) (.of_mem (by intro x hx; simp at hx; omega)) hsuf)
    obtain ⟨T, hT⟩ : ∃ T, T = toS [48 + (m : Int) % 10] := ⟨_, rfl⟩
    obtain ⟨U, hU⟩ : ∃ U, U = toS suf := ⟨_, rfl⟩
    rw [← hT] at hcv hadd HJ
    rw [← hU] at hadd HJ ⊢
    by_cases h10 : m < 10
    · have hq : ((m : Int) / 10 == 0) = true := by rw [beq_iff_eq]; omega
      have HR : Hid (toS (digL N) = T ++ U) := Lib.hid (by
        rw [HJ.out, HDIG.out, digL_one h10]
        congr 1
        show (48 + (m : Int)) :: suf = _
        congr 1; omega)
      clear hsuf hdig hbel hT hU hss hd1
      go_wp2
      go_ret
      rw [HR.out]
      exact ⟨rfl, HB.out.trans ((belowAlloc wr _).mono HB.out.size)⟩
    · have hq : ((m : Int) / 10 == 0) = false := by rw [beq_eq_false_iff_ne]; omega
      have HR : Hid (digL N = digL (m / 10) ++ (48 + (m : Int) % 10) :: suf) := Lib.hid (by
        rw [HDIG.out, digL_more h10, List.append_assoc]
        rfl)
      clear hsuf hdig hbel hT hU hss hd1
      go_wp2
      go_roundw
      case rel => exact ⟨m / 10, (48 + (m : Int) % 10) :: suf, by congr 1, by omega, by rw [← HJ.out], HSUF2.out, HR.out, HB.out.trans ((belowAlloc wr _).mono HB.out.size)⟩
      case measure => simp [intOf]; omega
theorem txt_min : (⟨#[45, 57, 50, 50, 51, 51, 55, 50, 48, 51, 54, 56, 53, 52, 55, 55, 53, 56, 48, 56]⟩ : ByteArray) = toS (prL (-9223372036854775808)) := by
  have h : prL (-9223372036854775808) = [45, 57, 50, 50, 51, 51, 55, 50, 48, 51, 54, 56, 53, 52, 55, 55, 53, 56, 48, 56] := by
    have := prL_numL (l := [45, 57, 50, 50, 51, 51, 55, 50, 48, 51, 54, 56, 53, 52, 55, 55, 53, 56, 48, 56]) (by decide)
    rw [show numL [45, 57, 50, 50, 51, 51, 55, 50, 48, 51, 54, 56, 53, 52, 55, 55, 53, 56, 48, 56] = -9223372036854775808 by decide] at this
    exact this
  rw [h]; rfl
theorem refPrint_any (n : Int) (w : World) (h0 : -9223372036854775808 ≤ n) (h1 : n ≤ 9223372036854775807) :
    Calls Tryd.prog 9 #[.int .i64 n] w fun e w' => e = .returned (.string (toS (prL n))) ∧ Below w.heap.size w w' := by
  by_cases hn : n < 0
  · by_cases hm : n = -9223372036854775808
    · subst hm
      rw [← txt_min]
      clear h0 h1 hn
      go_enter Tryd.func9, Tryd.ntmps9
      go_wp2
      go_ret
      exact ⟨rfl, Below.refl _ _⟩
    · obtain ⟨m, hmm⟩ : ∃ m : Nat, (m : Int) = -n := ⟨(-n).toNat, by omega⟩
      have HC := Lib.hid (fun W : World => refPrint_pos m W (by omega))
      have hpr : prL n = [45] ++ digL m := by unfold prL; rw [if_pos hn, show n.natAbs = m by omega]; rfl
      have HJ : Hid ((⟨#[45]⟩ : ByteArray) ++ toS (digL m) = toS (prL n)) := Lib.hid (by
        rw [hpr, ← toS_append (.of_mem (by decide)) (digL_bytes m)]; rfl)
      have hlen : (digL m).length ≤ 20 := digL_len 19 m (by omega)
      have hsz : (toS (digL m)).size ≤ 20 := by rw [size_toS]; exact hlen
      have hadd : (⟨#[45]⟩ : ByteArray).size + (toS (digL m)).size ≤ 9223372036854775807 := by
        have : (⟨#[45]⟩ : ByteArray).size = 1 := rfl
        omega
      have hneg : IntKind.i64.wrap (-n) = (m : Int) := by rw [IntKind.wrap_i64, hmm]; omega
      have hq : (n == -9223372036854775808) = false := by rw [beq_eq_false_iff_ne]; exact hm
      obtain ⟨T, hT⟩ : ∃ T, T = toS (digL m) := ⟨_, rfl⟩
      rw [← hT] at HC HJ hadd
      rw [hmm] at HC
      have hneg2 : -n ≤ 9223372036854775807 := by omega
      clear hpr hlen hsz hT hm h1 hmm hneg
      go_enter Tryd.func9, Tryd.ntmps9
      go_wp2_with (go_at_call 9; (with_reducible refine (HC.out w).mono ?_); rintro e w' ⟨rfl, hb⟩; have HB := Lib.hid hb; clear hb)
      go_ret
      rw [HJ.out]
      exact ⟨rfl, HB.out⟩
  · obtain ⟨m, rfl⟩ := Int.eq_ofNat_of_zero_le (show 0 ≤ n by omega)
    have := refPrint_pos m w h1
    rwa [show digL m = prL (m : Int) by unfold prL; rw [if_neg hn]; rfl] at this

/-! ### form -/
set_option maxHeartbeats 1000000 in
theorem refForm_plain (s : ByteArray) (w : World) (hs : s.size ≤ 9223372036854775807) (h45 : (strL s).getD 0 0 ≠ 45) :
    Calls Tryd.prog 18 #[.string s] w fun e w' => e = .returned (.bool (formL (strL s))) ∧ w = w' := by
  have hlen := length_strL s
  have HF : Hid (formL (strL s) = true ↔ AllD (strL s) ∧ ((strL s).length = 1 ∨ 1 < (strL s).length ∧ (strL s).getD 0 0 ≠ 48)) := Lib.hid (formL_plain h45)
  have h0 : ∀ h : 0 < s.size, (((s[0]'h).toNat : Int) == 45) = false := fun h => by
    rw [beq_eq_false_iff_ne, ← strL_get s 0 h]; exact h45
  by_cases hz : 0 < s.size
  · have h0' := h0 hz
    have HG0 := Lib.hid (strL_get s 0 hz)
    have HL := Lib.hid hlen
    clear h0 h45 hlen
    go_enter Tryd.func18, Tryd.ntmps18
    go_wp2
    go_loop [3] (fun i => ∃ k : Nat, k ≤ s.size ∧ i = .int .i64 (k : Int) ∧ ∀ j, j < k → 48 ≤ (strL s).getD j 0 ∧ (strL s).getD j 0 ≤ 57) (fun i => s.size - (intOf i).toNat)
    case atStart => exact ⟨0, by omega, rfl, fun j hj => by omega⟩
    case round =>
      obtain ⟨k, hk, rfl, hall⟩ := hrel
      have HA := Lib.hid hall
      clear hall
      by_cases hlt : k < s.size
      · have HG := Lib.hid (strL_get s k hlt)
        by_cases hd : 48 ≤ (strL s).getD k 0 ∧ (strL s).getD k 0 ≤ 57
        · obtain ⟨hd1, hd2⟩ := hd
          have HD := Lib.hid (And.intro hd1 hd2)
          rw [HG.out] at hd1 hd2
          go_wp2
          go_round
          case rel => exact ⟨k + 1, by omega, by go_num, fun j hj => by
            rcases Nat.lt_or_ge j k with h | h
            · exact HA.out j h
            · obtain rfl : j = k := by omega
              exact HD.out⟩
          case measure => simp [intOf]; omega
        · have HR : Hid (formL (strL s) = false) := Lib.hid (by
            rw [← Bool.not_eq_true, HF.out]
            rintro ⟨h, _⟩
            exact hd (h.at k (by rw [HL.out]; exact hlt)))
          rw [HG.out] at hd
          by_cases hd1 : ((s[k]'hlt).toNat : Int) < 48
          · clear hd
            go_wp2
            go_ret
            rw [HR.out]
            exact ⟨rfl, rfl⟩
          · have hd2 : 57 < ((s[k]'hlt).toNat : Int) := by omega
            clear hd
            go_wp2
            go_ret
            rw [HR.out]
            exact ⟨rfl, rfl⟩
      · obtain rfl : k = s.size := by omega
        have HALL : Hid (AllD (strL s)) := Lib.hid (.of_at fun j hj => HA.out j (by rw [HL.out] at hj; exact hj))
        by_cases h1 : s.size = 1
        · have HR : Hid (formL (strL s) = true) := Lib.hid (HF.out.2 ⟨HALL.out, .inl (by rw [HL.out, h1])⟩)
          have h1b : ((s.size : Int) == 1) = true := by rw [beq_iff_eq]; omega
          have H1 := Lib.hid h1
          clear h1
          go_wp2
          go_ret
          rw [HR.out]
          exact ⟨rfl, rfl⟩
        · have h1b : ((s.size : Int) == 1) = false := by rw [beq_eq_false_iff_ne]; omega
          have h1c : (1 : Int) < (s.size : Int) := by omega
          by_cases h48 : (strL s).getD 0 0 = 48
          · have HR : Hid (formL (strL s) = false) := Lib.hid (by
              rw [← Bool.not_eq_true, HF.out]
              rintro ⟨_, h | ⟨_, h⟩⟩
              · rw [HL.out] at h; exact h1 h
              · exact h h48)
            have hb : (((s[0]'hz).toNat : Int) != 48) = false := by rw [← HG0.out, h48]; rfl
            clear h48 h1
            go_wp2
            go_ret
            rw [HR.out]
            exact ⟨rfl, rfl⟩
          · have HR : Hid (formL (strL s) = true) := Lib.hid (HF.out.2 ⟨HALL.out, .inr ⟨by rw [HL.out]; omega, h48⟩⟩)
            have hb : (((s[0]'hz).toNat : Int) != 48) = true := by rw [← HG0.out, bne_iff_ne]; exact h48
            clear h48 h1
            go_wp2
            go_ret
            rw [HR.out]
            exact ⟨rfl, rfl⟩
  · have e : s = ⟨#[]⟩ := strL_inj (by rw [List.eq_nil_of_length_eq_zero (hlen.trans (by omega))]; rfl)
    subst e
    clear hlen HF h0 h45 hs hz
    go_enter Tryd.func18, Tryd.ntmps18
    go_wp2
    refine wp_loop_rounds 1 ?_
    rw [rounds_succ]
    go_wp2
    go_ret
    exact ⟨rfl, rfl⟩
set_option maxHeartbeats 1000000 in
theorem refForm_any (s : ByteArray) (w : World) (hs : s.size ≤ 9223372036854775807) :
    Calls Tryd.prog 18 #[.string s] w fun e w' => e = .returned (.bool (formL (strL s))) ∧ w = w' := by
  by_cases h45 : (strL s).getD 0 0 = 45
  · have hlen := length_strL s
    have hz : 0 < s.size := by
      rcases Nat.eq_zero_or_pos s.size with h | h
      · rw [List.eq_nil_of_length_eq_zero (hlen.trans h)] at h45; simp at h45
      · exact h
    have h0 : (((s[0]'hz).toNat : Int) == 45) = true := by rw [beq_iff_eq, ← strL_get s 0 hz]; exact h45
    have hex : strL (s.extract 1 s.size) = (strL s).drop 1 := by rw [strL_extract, List.take_of_length_le (by omega)]
    have hl1 : ((strL s).drop 1).getD 0 0 = (strL s).getD 1 0 := by simp [List.getD_eq_getElem?_getD]
    have hcons : strL s = 45 :: (strL s).drop 1 := by
      cases hl : strL s with
      | nil => rw [hl] at h45; simp at h45
      | cons c r => rw [hl] at h45; rw [List.getD_cons_zero] at h45; rw [h45]; rfl
    have hd := formL_dash ((strL s).drop 1)
    rw [← hcons, hl1] at hd
    have HD := Lib.hid hd
    by_cases h1 : 1 < s.size
    · have HG1 := Lib.hid (strL_get s 1 h1)
      have hne : (strL s).drop 1 ≠ [] := fun e => by
        have := congrArg List.length e
        rw [List.length_drop, hlen] at this
        simp at this; omega
      have HNE := Lib.hid hne
      by_cases h48 : (strL s).getD 1 0 = 48
      · have HR : Hid (formL (strL s) = false) := Lib.hid (by rw [← Bool.not_eq_true, HD.out]; rintro ⟨_, h, _⟩; exact h h48)
        have hb : (((s[1]'h1).toNat : Int) != 48) = false := by rw [← HG1.out, h48]; rfl
        clear hd hne h48 hl1 hex hcons h45 hlen
        go_enter Tryd.func18, Tryd.ntmps18
        go_wp2
        go_ret
        rw [HR.out]
        exact ⟨rfl, rfl⟩
      · have hb : (((s[1]'h1).toNat : Int) != 48) = true := by rw [← HG1.out, bne_iff_ne]; exact h48
        by_cases h451 : (strL s).getD 1 0 = 45
        · have HR : Hid (formL (strL s) = false) := Lib.hid (by rw [← Bool.not_eq_true, HD.out]; rintro ⟨_, _, h, _⟩; exact h h451)
          have hb2 : (((s[1]'h1).toNat : Int) != 45) = false := by rw [← HG1.out, h451]; rfl
          clear hd hne h48 h451 hl1 hex hcons h45 hlen
          go_enter Tryd.func18, Tryd.ntmps18
          go_wp2
          go_ret
          rw [HR.out]
          exact ⟨rfl, rfl⟩
        · have hb2 : (((s[1]'h1).toNat : Int) != 45) = true := by rw [← HG1.out, bne_iff_ne]; exact h451
          have HC := Lib.hid (refForm_plain (s.extract 1 s.size) w (by rw [← length_strL, hex, List.length_drop]; omega) (by rw [hex, hl1]; exact h451))
          rw [hex] at HC
          have HR : Hid (formL ((strL s).drop 1) = formL (strL s)) := Lib.hid (by
            rw [Bool.eq_iff_iff, HD.out]
            exact ⟨fun h => ⟨HNE.out, h48, h451, h⟩, fun h => h.2.2.2⟩)
          rw [HR.out] at HC
          clear hd hne h48 h451 hl1 hex hcons h45 hlen
          go_enter Tryd.func18, Tryd.ntmps18
          go_wp2_with (go_at_call 18; (with_reducible refine HC.out.mono ?_); rintro e w' ⟨rfl, rfl⟩)
          go_ret
          exact ⟨rfl, rfl⟩
    · have h1' : s.size = 1 := by omega
      have HR : Hid (formL (strL s) = false) := Lib.hid (by
        rw [← Bool.not_eq_true, HD.out]
        rintro ⟨h, _⟩
        exact h (List.drop_eq_nil_of_le (by omega)))
      have hc : ¬ (1 : Int) < (s.size : Int) := by omega
      clear hd hl1 hex hcons h45 hlen h1'
      go_enter Tryd.func18, Tryd.ntmps18
      go_wp2
      go_ret
      rw [HR.out]
      exact ⟨rfl, rfl⟩
  · exact refForm_plain s w hs h45

/-! ### less -/
set_option maxHeartbeats 400000 in
theorem refLess_any (s t : ByteArray) (w : World) :
    Calls Tryd.prog 19 #[.string s, .string t] w fun e w' => e = .returned (.bool (lessL (strL s) (strL t))) ∧ w = w' := by
  have h1 := length_strL s
  have h2 := length_strL t
  by_cases h : s.size = t.size
  · have hb : ((s.size : Int) != (t.size : Int)) = false := by rw [h]; simp
    have HR : Hid (lessL (strL s) (strL t) = Op.bytesLess s.toList t.toList) := Lib.hid (by
      unfold lessL; rw [if_neg (by rw [h1, h2, h]; simp), bytesLess_str])
    obtain ⟨b, hbb⟩ : ∃ b, b = Op.bytesLess s.toList t.toList := ⟨_, rfl⟩
    rw [HR.out, ← hbb]
    have HBB := Lib.hid hbb
    clear h1 h2 h hbb
    go_enter Tryd.func19, Tryd.ntmps19
    go_wp2
    go_ret
    rw [HBB.out]
    exact ⟨rfl, rfl⟩
  · have hb : ((s.size : Int) != (t.size : Int)) = true := by rw [bne_iff_ne]; omega
    have HR : Hid (lessL (strL s) (strL t) = decide (s.size < t.size)) := Lib.hid (by
      unfold lessL; rw [if_pos (by rw [h1, h2]; exact h), h1, h2])
    rw [HR.out]
    clear h1 h2 h
    go_enter Tryd.func19, Tryd.ntmps19
    go_wp2
    go_ret
    exact ⟨rfl, rfl⟩

/-! ### Lead -/
theorem take_step {l : List Int} {c : Int} {r : List Int} (hl : l = c :: r) (k : Nat) : l.take (k + 1) = c :: r.take k := by rw [hl, List.take_succ_cons]
set_option maxHeartbeats 1000000 in
theorem refLead_any (s : ByteArray) (w : World) (hs : s.size ≤ 9223372036854775806) :
    Calls Tryd.prog 15 #[.string s] w fun e w' => e = .returned (.int .i64 (leadL (strL s) : Int)) ∧ w = w' := by
  have HL := Lib.hid (length_strL s)
  have HF := Lib.hid (fun (k : Nat) (hk : k ≤ s.size) (W : World) => refForm_any (s.extract 0 k) W (by rw [← length_strL, strL_extract, List.drop_zero, List.length_take, length_strL]; omega))
  have HE := Lib.hid (fun (k : Nat) => show strL (s.extract 0 k) = (strL s).take k by rw [strL_extract, List.drop_zero])
  go_enter Tryd.func15, Tryd.ntmps15
  go_wp2
  go_loop [3, 4] (fun b n => ∃ k : Nat, k ≤ s.size ∧ n = .int .i64 ((k + 1 : Nat) : Int) ∧ b = .int .i64 (leadL ((strL s).take k) : Int) ∧ AllD (((strL s).take k).drop 1)) (fun _ n => s.size + 1 - (intOf n).toNat)
  case atStart => exact ⟨0, by omega, rfl, rfl, fun x hx => by simp at hx⟩
  case round =>
    obtain ⟨k, hk, rfl, rfl, hall⟩ := hrel
    have HA := Lib.hid hall
    clear hall
    by_cases hlt : k < s.size
    · have hnext : ∀ (hd : k = 0 ∨ 48 ≤ (strL s).getD k 0 ∧ (strL s).getD k 0 ≤ 57), AllD (((strL s).take (k + 1)).drop 1) := fun hd x hx => by
        rw [List.take_succ_eq_append_getElem (by rw [HL.out]; exact hlt)] at hx
        rcases Nat.eq_zero_or_pos k with h0 | h0
        · subst h0; simp at hx
        · rw [List.drop_append_of_le_length (by rw [List.length_take, HL.out]; omega)] at hx
          rcases List.mem_append.1 hx with hx | hx
          · exact HA.out x hx
          · have h1 := hd.resolve_left (by omega)
            rw [List.getD_eq_getElem?_getD, List.getElem?_eq_getElem (by rw [HL.out]; exact hlt)] at h1
            simp at hx
            subst hx
            exact h1
      have HNX := Lib.hid hnext
      have HST := Lib.hid (fun hd => leadL_step (l := strL s) (k := k) (by rw [HL.out]; exact hlt) (hnext hd))
      have HFK := Lib.hid (HF.out (k + 1) (by omega))
      rw [HE.out] at HFK
      have HG := Lib.hid (strL_get s k hlt)
      have hlt' : (k : Int) + 1 ≤ (s.size : Int) := by omega
      clear hnext
      by_cases h0 : k = 0
      · have HS1 : Hid (leadL ((strL s).take (k + 1)) = if formL ((strL s).take (k + 1)) = true then k + 1 else leadL ((strL s).take k)) := Lib.hid (HST.out (.inl h0))
        have HN1 := Lib.hid (HNX.out (.inl h0))
        have hk1 : ¬ (1 : Int) < (k : Int) + 1 := by omega
        clear h0
        obtain ⟨f, hf⟩ : ∃ f, f = formL ((strL s).take (k + 1)) := ⟨_, rfl⟩
        rw [← hf] at HFK HS1
        clear hf
        cases f
        · have HB : Hid (leadL ((strL s).take (k + 1)) = leadL ((strL s).take k)) := Lib.hid (by rw [HS1.out, if_neg (by decide)])
          go_wp2_with (go_at_call 18; (with_reducible refine (HFK.out _).mono ?_); rintro e w' ⟨rfl, rfl⟩)
          go_round
          case rel => exact ⟨k + 1, by omega, by go_num, by rw [HB.out], HN1.out⟩
          case measure => simp [intOf]; omega
        · have HB : Hid (leadL ((strL s).take (k + 1)) = k + 1) := Lib.hid (by rw [HS1.out, if_pos rfl])
          go_wp2_with (go_at_call 18; (with_reducible refine (HFK.out _).mono ?_); rintro e w' ⟨rfl, rfl⟩)
          go_round
          case rel => exact ⟨k + 1, by omega, by go_num, by rw [HB.out]; go_num, HN1.out⟩
          case measure => simp [intOf]; omega
      · have hk1 : (1 : Int) < (k : Int) + 1 := by omega
        by_cases hd : 48 ≤ (strL s).getD k 0 ∧ (strL s).getD k 0 ≤ 57
        · have HS1 : Hid (leadL ((strL s).take (k + 1)) = if formL ((strL s).take (k + 1)) = true then k + 1 else leadL ((strL s).take k)) := Lib.hid (HST.out (.inr hd))
          have HN1 := Lib.hid (HNX.out (.inr hd))
          obtain ⟨hd1, hd2⟩ := hd
          rw [HG.out] at hd1 hd2
          clear h0
          obtain ⟨f, hf⟩ : ∃ f, f = formL ((strL s).take (k + 1)) := ⟨_, rfl⟩
          rw [← hf] at HFK HS1
          clear hf
          cases f
          · have HB : Hid (leadL ((strL s).take (k + 1)) = leadL ((strL s).take k)) := Lib.hid (by rw [HS1.out, if_neg (by decide)])
            go_wp2_with (go_at_call 18; (with_reducible refine (HFK.out _).mono ?_); rintro e w' ⟨rfl, rfl⟩)
            go_round
            case rel => exact ⟨k + 1, by omega, by go_num, by rw [HB.out], HN1.out⟩
            case measure => simp [intOf]; omega
          · have HB : Hid (leadL ((strL s).take (k + 1)) = k + 1) := Lib.hid (by rw [HS1.out, if_pos rfl])
            go_wp2_with (go_at_call 18; (with_reducible refine (HFK.out _).mono ?_); rintro e w' ⟨rfl, rfl⟩)
            go_round
            case rel => exact ⟨k + 1, by omega, by go_num, by rw [HB.out]; go_num, HN1.out⟩
            case measure => simp [intOf]; omega
        · have HR : Hid (leadL ((strL s).take k) = leadL (strL s)) := Lib.hid (leadL_break (by rw [HL.out]; exact hlt) (by omega) HA.out hd).symm
          rw [HG.out] at hd
          by_cases hd1 : ((s[k]'hlt).toNat : Int) < 48
          · clear hd h0
            go_wp2
            go_ret
            rw [HR.out]
            exact ⟨rfl, rfl⟩
          · have hd2 : 57 < ((s[k]'hlt).toNat : Int) := by omega
            clear hd h0
            go_wp2
            go_ret
            rw [HR.out]
            exact ⟨rfl, rfl⟩
    · obtain rfl : k = s.size := by omega
      have HR : Hid (leadL ((strL s).take s.size) = leadL (strL s)) := Lib.hid (by rw [List.take_of_length_le (by rw [HL.out]; exact Nat.le_refl _)])
      go_wp2
      go_ret
      rw [HR.out]
      exact ⟨rfl, rfl⟩
end Go.Proofs.YtkelioafnobolaaDoor
