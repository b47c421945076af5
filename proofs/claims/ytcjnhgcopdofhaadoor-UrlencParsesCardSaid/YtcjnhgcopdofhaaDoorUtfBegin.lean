/- The walks of begin and Next. -/
import Derived.Test.YtcjnhgcopdofhaaDoorUtfPut
import Derived.LoopTactic
import Derived.IntWalk
namespace Go.Proofs.YtcjnhgcopdofhaaDoor
open Go Go.RowKit

theorem accL_bd (c0 : Int) (l : List Int) (h : 0 ≤ c0 ∧ c0 ≤ 255) : ∀ i, 0 ≤ accL c0 l i ∧ accL c0 l i < 256 * 64 ^ i
  | 0 => by show 0 ≤ c0 ∧ c0 < 256 * 64 ^ 0; omega
  | i + 1 => by
    have := accL_bd c0 l h i
    rw [accL, Int.pow_succ]
    omega
theorem marksub_bd (c : Int) (h : 0 ≤ c ∧ c ≤ 255) : 0 ≤ c - markL (wantL c) ∧ c - markL (wantL c) ≤ 255 := by
  unfold wantL
  split
  · show 0 ≤ c - 240 ∧ _ ≤ _; unfold markL; simp; omega
  · split
    · show 0 ≤ c - 224 ∧ _ ≤ _; unfold markL; simp; omega
    · split
      · show 0 ≤ c - 192 ∧ _ ≤ _; unfold markL; simp; omega
      · show 0 ≤ c - 0 ∧ _ ≤ _; unfold markL; simp; omega

theorem begin_empty (w : World) :
    Calls Tryd.prog 75 #[.string ⟨#[]⟩] w fun e w' => e = .returned (.tuple #[.int .i64 (-1), .int .i64 0]) ∧ Below w.heap.size w w' := by
  go_enter Tryd.func75, Tryd.ntmps75
  go_wp2
  go_ret2
  exact ⟨rfl, Below.refl _ _⟩

theorem notEmpty {s : ByteArray} (h : 0 < s.size) : s.toList.isEmpty = false := by
  rw [ByteArray.toList_eq]
  cases hd : s.data.toList with
  | nil =>
    have : s.size = s.data.toList.length := by simp
    rw [hd] at this
    rw [this] at h
    exact absurd h (by decide)
  | cons => rfl
/-- What the beginning of a text tells. -/
structure BeginOf (s : ByteArray) (k : Nat) : Prop where
  pos : 0 < s.size
  want : wantL ((strL s).getD 0 0) = k + 1
  le : k ≤ 3
theorem beginOf {s : ByteArray} (h : 0 < s.size) : ∃ k, BeginOf s k := by
  have hw := wantL_bd ((strL s).getD 0 0)
  exact ⟨wantL ((strL s).getD 0 0) - 1, h, by omega, by omega⟩
theorem BeginOf.call {s : ByteArray} {k : Nat} (h : BeginOf s k) (h0 : 0 < s.size) (W : World) (hM : Marks W) :
    Calls Tryd.prog 78 #[.int .u8 ((s[0]'h0).toNat : Int)] W fun e w' => e = .returned (.int .i64 (k : Int)) ∧ W = w' := by
  have hb := (strL_bd s) 0
  have := wanted_any ((strL s).getD 0 0) W hM hb.1 hb.2
  rw [h.want, Nat.add_sub_cancel, strL_get s 0 h.pos] at this
  exact this
set_option maxHeartbeats 1000000 in
theorem begin_short (s : ByteArray) (w : World) (hm : Marks w) (h0 : 0 < s.size) (hs : s.size < wantL ((strL s).getD 0 0)) :
    Calls Tryd.prog 75 #[.string s] w fun e w' => e = .returned (.tuple #[.int .i64 (-1), .int .i64 1]) ∧ Below w.heap.size w w' := by
  obtain ⟨k, hk⟩ := beginOf h0
  rw [hk.want] at hs
  have HW := Lib.hid (fun W (hM : Marks W) => hk.call h0 W hM)
  have hk4 := hk.le
  have hE := notEmpty h0
  have HM := Lib.hid hm
  clear hm hk
  go_enter Tryd.func75, Tryd.ntmps75
  go_wp2_with (go_at_call 78; refine (HW.out _ HM.out).mono ?_; rintro e w' ⟨rfl, rfl⟩)
  go_ret2
  exact ⟨rfl, Below.refl _ _⟩
theorem pow64 (j : Nat) (h : j ≤ 3) : (64 : Int) ^ j ≤ 262144 := by
  match j, h with
  | 0, _ => decide
  | 1, _ => decide
  | 2, _ => decide
  | 3, _ => decide
theorem belowDN (w : World) (n : Nat) : Below w.heap.size w (w.drewN n) := below_drewN (Below.refl _ _) n
theorem or_low (x y : Int) (h0 : 0 ≤ x ∧ x < 140737488355328) (h1 : 0 ≤ y ∧ y < 64) : bits .or .i64 (x * 64) y = x * 64 + y := or_above x y 6 h1.1 (by omega) h0.1 (by omega)
set_option maxRecDepth 100000 in
set_option maxHeartbeats 2000000 in
theorem begin_long (s : ByteArray) (w : World) (hm : Marks w) (h0 : 0 < s.size) (hsz : s.size ≤ 9223372036854775807) (hs : wantL ((strL s).getD 0 0) ≤ s.size) :
    Calls Tryd.prog 75 #[.string s] w fun e w' => e = .returned (.tuple #[.int .i64 (nxL (strL s)).1, .int .i64 ((nxL (strL s)).2 : Int)]) ∧ Below w.heap.size w w' := by
  obtain ⟨k, hk⟩ := beginOf h0
  have hb0 := (strL_bd s) 0
  have hms := marksub_bd _ hb0
  have hacc := accL_bd ((strL s).getD 0 0 - markL (k + 1)) (strL s) (by rw [← hk.want]; exact hms)
  rw [hk.want] at hs hms
  rw [strL_get s 0 h0] at hms
  have HC : Hid (candL (strL s) = accL ((strL s).getD 0 0 - markL (k + 1)) (strL s) k) := Lib.hid (by unfold candL; rw [hk.want, Nat.add_sub_cancel])
  have HG0 : Hid ((strL s).getD 0 0 = ((s[0]'h0).toNat : Int)) := Lib.hid (strL_get s 0 h0)
  have HW := Lib.hid (fun W (hM : Marks W) => hk.call h0 W hM)
  have hk4 := hk.le
  have hE := notEmpty h0
  have HM := Lib.hid hm
  have m1 : w.cell? ⟨4, k + 1, none⟩ = some (.int .i64 (markL (k + 1))) := marks_cell hm (k + 1) (by omega)
  have HWANT := Lib.hid hk.want
  have hmk : 0 ≤ markL (k + 1) ∧ markL (k + 1) ≤ 240 := by unfold markL; split <;> (try split) <;> (try split) <;> omega
  obtain ⟨m, hmm⟩ : ∃ m, m = markL (k + 1) := ⟨_, rfl⟩
  rw [← hmm] at m1 hms hacc HC hmk
  have HA := Lib.hid hacc
  have h1k : (1 : Int) + (k : Int) = ((k + 1 : Nat) : Int) := by omega
  clear hm hk hb0 hmm hacc
  go_enter Tryd.func75, Tryd.ntmps75
  go_wp2_with (go_at_call 78; refine (HW.out _ HM.out).mono ?_; rintro e w' ⟨rfl, rfl⟩)
  go_quiet (fail)
  go_wp2
  go_loopw [2, 4] (fun x i wr => Below w.heap.size w wr ∧ ∃ j : Nat, j ≤ k ∧ i = .int .i64 ((j + 1 : Nat) : Int) ∧ x = .int .i64 (accL ((strL s).getD 0 0 - m) (strL s) j)) (fun _ i _ => k + 1 - (intOf i).toNat)
  case atStart => exact ⟨belowDN w _, 0, by omega, rfl, by rw [HG0.out]; rfl⟩
  case round =>
    obtain ⟨hbel, j, hj, rfl, rfl⟩ := hrel
    have HB := Lib.hid hbel
    clear hbel
    by_cases hlt : j < k
    · have ha := HA.out j
      have h64 := pow64 j (by omega)
      have ha2 : accL ((strL s).getD 0 0 - m) (strL s) j < 140737488355328 := by
        omega
      obtain ⟨ha1, _⟩ := ha
      have HN : Hid (accL ((strL s).getD 0 0 - m) (strL s) (j + 1) = accL ((strL s).getD 0 0 - m) (strL s) j * 64 + ((s[j + 1]'(by omega)).toNat : Int) % 64) := Lib.hid (by rw [accL, strL_get s (j + 1) (by omega)])
      obtain ⟨x, hx⟩ : ∃ x, x = accL ((strL s).getD 0 0 - m) (strL s) j := ⟨_, rfl⟩
      rw [← hx] at ha1 ha2 HN ⊢
      have hu := (s[j + 1]'(by omega)).toNat_lt
      have e1 := and_mask_i64 ((s[j + 1]'(by omega)).toNat : Int) 6 (by decide) (by omega) (by omega)
      replace e1 : bits .and .i64 ((s[j + 1]'(by omega)).toNat : Int) 63 = ((s[j + 1]'(by omega)).toNat : Int) % 64 := e1
      have e2 := or_low x (((s[j + 1]'(by omega)).toNat : Int) % 64) ⟨ha1, ha2⟩ (by omega)
      clear hx h64
      go_wp2
      go_roundw
      case rel => exact ⟨HB.out, j + 1, by omega, by go_num, by rw [HN.out]⟩
      case measure => simp [intOf]; omega
    · obtain rfl : j = k := by omega
      have HML := Lib.hid (HM.out.below HB.out)
      have HPUT := Lib.hid (fun (W : World) (hM : Marks W) => put_any (candL (strL s)) W hM)
      rw [HC.out] at HPUT
      have hnx : Hid (nxL (strL s) = if putL (candL (strL s)) = (strL s).take (j + 1) then (candL (strL s), j + 1) else (-1, 1)) := Lib.hid (by
        have hl := length_strL s
        unfold nxL
        rw [HWANT.out, if_neg (by omega), if_neg (by omega)])
      have hcand : -1 ≤ candL (strL s) := by
        rw [HC.out]
        have := (HA.out j).1
        omega
      by_cases hp : putL (candL (strL s)) = (strL s).take (j + 1)
      · have HR : Hid (nxL (strL s) = (candL (strL s), j + 1)) := Lib.hid (by rw [hnx.out, if_pos hp])
        have heq : ((toS (putL (candL (strL s)))).toList == (s.extract 0 (j + 1)).toList) = true := by
          rw [eq_toList, decide_eq_true_eq, hp]
          exact strL_inj (by rw [strL_toS ((strL_bd s).take _), strL_extract, List.drop_zero])
        rw [HC.out] at heq HR
        obtain ⟨L, hL⟩ : ∃ L, L = accL ((strL s).getD 0 0 - m) (strL s) j := ⟨_, rfl⟩
        rw [← hL] at heq HR HPUT ⊢
        obtain ⟨T, hT⟩ : ∃ T, T = toS (putL L) := ⟨_, rfl⟩
        rw [← hT] at heq HPUT
        clear hp hnx hL hcand hT
        go_wp2_with fail
        have b0 : (0 : Int) ≤ (j : Int) + 1 := by omega
        have b1 : (j : Int) + 1 ≤ (s.size : Int) := by omega
        have b2 : ((j : Int) + 1).toNat = j + 1 := by omega
        go_region_held3 (fun W => Below wr.heap.size wr W) (first | exact (Below.refl _ _).drew | exact Below.trans (by assumption) (hb.mono (Below.size (by assumption))) | go_keep)
          (first | (go_at_call 79; refine (HPUT.out _ (HML.out.below ‹_›)).mono ?_; rintro e w' ⟨rfl, hb⟩))
        have HW' := Lib.hid (‹Below wr.heap.size wr _›)
        clear b0 b1 b2 hb
        go_wp2_with fail
        go_ret2
        rw [HR.out]
        exact ⟨rfl, HB.out.trans (HW'.out.mono HB.out.size)⟩
      · have HR : Hid (nxL (strL s) = (-1, 1)) := Lib.hid (by rw [hnx.out, if_neg hp])
        have heq : ((toS (putL (candL (strL s)))).toList == (s.extract 0 (j + 1)).toList) = false := by
          rw [eq_toList, decide_eq_false_iff_not]
          intro e
          have e2 := (eq_toS (putL_bytes _)).1 e.symm
          rw [strL_extract, List.drop_zero] at e2
          exact hp e2.symm
        rw [HC.out] at heq
        obtain ⟨L, hL⟩ : ∃ L, L = accL ((strL s).getD 0 0 - m) (strL s) j := ⟨_, rfl⟩
        rw [← hL] at heq HPUT ⊢
        obtain ⟨T, hT⟩ : ∃ T, T = toS (putL L) := ⟨_, rfl⟩
        rw [← hT] at heq HPUT
        clear hp hnx hL hcand hT
        go_wp2_with fail
        have b0 : (0 : Int) ≤ (j : Int) + 1 := by omega
        have b1 : (j : Int) + 1 ≤ (s.size : Int) := by omega
        have b2 : ((j : Int) + 1).toNat = j + 1 := by omega
        go_region_held3 (fun W => Below wr.heap.size wr W) (first | exact (Below.refl _ _).drew | exact Below.trans (by assumption) (hb.mono (Below.size (by assumption))) | go_keep)
          (first | (go_at_call 79; refine (HPUT.out _ (HML.out.below ‹_›)).mono ?_; rintro e w' ⟨rfl, hb⟩))
        have HW' := Lib.hid (‹Below wr.heap.size wr _›)
        clear b0 b1 b2 hb
        go_wp2_with fail
        go_ret2
        rw [HR.out]
        exact ⟨rfl, HB.out.trans (HW'.out.mono HB.out.size)⟩
theorem begin_any (s : ByteArray) (w : World) (hm : Marks w) (hs : s.size ≤ 9223372036854775807) :
    Calls Tryd.prog 75 #[.string s] w fun e w' => e = .returned (.tuple #[.int .i64 (nxL (strL s)).1, .int .i64 ((nxL (strL s)).2 : Int)]) ∧ Below w.heap.size w w' := by
  have hl := length_strL s
  rcases Nat.eq_zero_or_pos s.size with h0 | h0
  · have e : s = ⟨#[]⟩ := strL_inj (by rw [List.eq_nil_of_length_eq_zero (hl.trans h0)]; rfl)
    subst e
    exact begin_empty w
  · rcases Nat.lt_or_ge s.size (wantL ((strL s).getD 0 0)) with h1 | h1
    · have : nxL (strL s) = (-1, 1) := by
        unfold nxL
        rw [if_neg (by omega), if_pos (by omega)]
      rw [this]
      exact begin_short s w hm h0 h1
    · exact begin_long s w hm h0 hs h1
end Go.Proofs.YtcjnhgcopdofhaaDoor
