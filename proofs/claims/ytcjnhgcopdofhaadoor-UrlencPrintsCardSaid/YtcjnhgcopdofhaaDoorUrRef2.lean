/- The walks of the reference's digit and Unescape. -/
import Derived.Test.YtcjnhgcopdofhaaDoorUrRef
import Derived.Deep.QuietTactic
import Derived.BigQuiet
namespace Go.Proofs.YtcjnhgcopdofhaaDoor
open Go Go.RowKit

def lowD (n : Int) : Int := if n < 10 then 48 + n else 87 + n
def lowA : Array UInt8 := #[48, 49, 50, 51, 52, 53, 54, 55, 56, 57, 97, 98, 99, 100, 101, 102]
theorem low_at : ∀ n : Fin 16, lowA[n.val]?.map (fun b => (b.toNat : Int)) = some (lowD (n.val : Int)) := by decide +kernel
theorem index_low (k : IntKind) (n : Int) (h0 : 0 ≤ n) (h1 : n < 16) (w : World) : (Instr.index 9 (.string { data := #[48, 49, 50, 51, 52, 53, 54, 55, 56, 57, 97, 98, 99, 100, 101, 102] }) (.int k n)).run Tryd.prog w = .ok (.int .u8 (lowD n)) w := by
  obtain ⟨m, rfl⟩ := Int.eq_ofNat_of_zero_le h0
  have hm : m < 16 := by omega
  obtain ⟨b, hb, hb2⟩ := Option.map_eq_some_iff.1 (low_at ⟨m, hm⟩)
  simp only at hb hb2
  have hs : m < lowA.size := hm
  show (Instr.index 9 (.string ⟨lowA⟩) (.int k (m : Int))).run Tryd.prog w = _
  have hq : (if (0 : Int) ≤ (m : Int) then (⟨lowA⟩ : ByteArray)[(m : Int).toNat]? else none) = some b := by
    rw [if_pos (by omega), Int.toNat_natCast, getElem?_pos (⟨lowA⟩ : ByteArray) m hs, ← hb, Array.getElem?_eq_getElem hs]
    rfl
  simp only [Instr.index, asIntOf, Sem.run_bind, Sem.run_pure, Result.andThen_ok, run_underlying Tryd.underlying9]
  rw [hq]
  simp only [Sem.run_pure, hb2]
theorem hexW_lowD {n : Int} (h0 : 0 ≤ n) (h1 : n < 16) : hexW (lowD n) = n := by
  unfold lowD hexW
  by_cases h : n < 10
  · rw [if_pos h, if_pos (by omega)]; omega
  · rw [if_neg h, if_neg (by omega), if_neg (by omega), if_pos (by omega)]; omega
theorem hexW_inv {c : Int} (h : hexW c ≠ -1) : c = lowD (hexW c) ∨ c = hexU (hexW c) := by
  unfold hexW at h ⊢
  by_cases a : 48 ≤ c ∧ c ≤ 57
  · simp only [if_pos a]; left; unfold lowD; rw [if_pos (by omega)]; omega
  · simp only [if_neg a] at h ⊢
    by_cases b : 65 ≤ c ∧ c ≤ 70
    · simp only [if_pos b]; right; unfold hexU; rw [if_neg (by omega)]; omega
    · simp only [if_neg b] at h ⊢
      by_cases d : 97 ≤ c ∧ c ≤ 102
      · simp only [if_pos d]; left; unfold lowD; rw [if_neg (by omega)]; omega
      · simp only [if_neg d] at h; exact absurd rfl h
set_option maxRecDepth 100000 in
set_option maxHeartbeats 2000000 in
theorem digit_in (s : ByteArray) (p : Nat) (w : World) (hs : s.size ≤ 1000000000) (hp : p < s.size) :
    Calls Tryd.prog 32 #[.string s, .int .i64 (p : Int)] w fun e w' => (∃ d, d = hexW ((strL s).getD p 0) ∧ e = .returned (.int .i64 d)) ∧ Below w.heap.size w w' := by
  have hip := fun W : World => run_index_str s p (p : Int) rfl hp .i64 W
  obtain ⟨c, hc⟩ : ∃ c, c = (strL s).getD p 0 := ⟨_, rfl⟩
  rw [← hc] at hip ⊢
  have hp1 : (p : Int) < (s.size : Int) := by omega
  have hp0 : (0 : Int) ≤ (p : Int) := by omega
  clear hc
  go_enter Tryd.func32, Tryd.ntmps32
  go_wp2
  go_loopw [5] (fun v wr => ∃ k : Nat, k ≤ 16 ∧ v = .int .i64 (k : Int) ∧ (∀ i : Nat, i < k → c ≠ lowD i ∧ c ≠ hexU i) ∧ Below w.heap.size w wr) (fun v _ => 16 - (intOf v).toNat)
  case atStart => exact ⟨0, by omega, rfl, fun i hi => absurd hi (by omega), Below.refl _ _⟩
  case round =>
    obtain ⟨k, hk, rfl, hno, hbel⟩ := hrel
    have HNO := Lib.hid hno
    have HBE := Lib.hid hbel
    clear hno hbel
    by_cases hlt : k < 16
    · have hk1 : (k : Int) < 16 := by omega
      have hk0 : (0 : Int) ≤ (k : Int) := by omega
      have i1 := fun W : World => index_low .i64 (k : Int) hk0 hk1 W
      have i2 := fun W : World => index_hex .i64 (k : Int) hk0 hk1 W
      have hl1 := hexW_lowD hk0 hk1
      have hl2 := hexW_hexU hk0 hk1
      obtain ⟨x, hx⟩ : ∃ x, x = lowD (k : Int) := ⟨_, rfl⟩
      obtain ⟨y, hy⟩ : ∃ y, y = hexU (k : Int) := ⟨_, rfl⟩
      rw [← hx] at i1 hl1
      rw [← hy] at i2 hl2
      by_cases e1 : c = x
      · have q1 : (c == x) = true := by simp [e1]
        have HR : Hid ((k : Int) = hexW c) := Lib.hid (by rw [e1, hl1])
        clear hl1 hl2 hx hy e1
        go_wp2_with fail
        go_quiet (fail)
        go_wp2
        go_ret
        exact ⟨⟨_, HR.out, rfl⟩, below_drewN HBE.out _⟩
      · have q1 : (c == x) = false := by simp [e1]
        by_cases e2 : c = y
        · have q2 : (c == y) = true := by simp [e2]
          have HR : Hid ((k : Int) = hexW c) := Lib.hid (by rw [e2, hl2])
          clear hl1 hl2 hx hy e1 e2
          go_wp2_with fail
          go_quiet (fail)
          go_wp2
          go_ret
          exact ⟨⟨_, HR.out, rfl⟩, below_drewN HBE.out _⟩
        · have q2 : (c == y) = false := by simp [e2]
          have HR : Hid (∀ i : Nat, i < k + 1 → c ≠ lowD i ∧ c ≠ hexU i) := Lib.hid fun i hi => by
            by_cases h : i < k
            · exact HNO.out i h
            · obtain rfl : i = k := by omega
              exact ⟨by rw [← hx]; exact e1, by rw [← hy]; exact e2⟩
          clear hl1 hl2 hx hy e1 e2
          go_wp2_with fail
          go_quiet (fail)
          go_wp2
          go_roundw
          case rel => exact ⟨k + 1, by omega, by go_num, HR.out, below_drewN HBE.out _⟩
          case measure => simp [intOf]; omega
    · obtain rfl : k = 16 := by omega
      have HR : Hid (-1 = hexW c) := Lib.hid (by
        by_cases h : hexW c = -1
        · exact h.symm
        · exfalso
          have hb := hexW_bd c
          obtain ⟨d, hd⟩ := Int.eq_ofNat_of_zero_le (show 0 ≤ hexW c by omega)
          have h2 := HNO.out d (by omega)
          rcases hexW_inv h with h3 | h3
          · exact h2.1 (by rw [← hd]; exact h3)
          · exact h2.2 (by rw [← hd]; exact h3))
      clear hlt
      go_wp2
      go_ret
      exact ⟨⟨_, HR.out, rfl⟩, HBE.out⟩
set_option maxRecDepth 100000 in
set_option maxHeartbeats 2000000 in
theorem digit_out (s : ByteArray) (p : Nat) (w : World) (hs : s.size ≤ 1000000000) (hp : ¬ p < s.size) :
    Calls Tryd.prog 32 #[.string s, .int .i64 (p : Int)] w fun e w' => e = .returned (.int .i64 (-1)) ∧ w = w' := by
  have hp1 : ¬ (p : Int) < (s.size : Int) := by omega
  have hp2 : decide ((p : Int) < (s.size : Int)) = false := decide_eq_false hp1
  go_enter Tryd.func32, Tryd.ntmps32
  go_wp2
  go_loop [5] (fun v => v = .int .i64 0) (fun _ => 1)
  case atStart => rfl
  case round =>
    obtain rfl := hrel
    go_wp2
    go_ret
    exact ⟨rfl, rfl⟩
/-- A digit's worth at a place; -1: none. -/
def dgL (l : List Int) (p : Nat) : Int := if p < l.length then hexW (l.getD p 0) else -1
theorem digit_any (s : ByteArray) (p : Nat) (x : Int) (hx : x = (p : Int)) (w : World) (hs : s.size ≤ 1000000000) :
    Calls Tryd.prog 32 #[.string s, .int .i64 x] w fun e w' => e = .returned (.int .i64 (dgL (strL s) p)) ∧ Below w.heap.size w w' := by
  subst hx
  unfold dgL
  rw [length_strL]
  by_cases hp : p < s.size
  · rw [if_pos hp]
    refine (digit_in s p w hs hp).mono ?_
    rintro e w' ⟨⟨d, hd, rfl⟩, hb⟩
    exact ⟨by rw [hd], hb⟩
  · rw [if_neg hp]
    refine (digit_out s p w hs hp).mono ?_
    rintro e w' ⟨rfl, rfl⟩
    exact ⟨rfl, Below.refl _ _⟩
theorem dgL_bd (l : List Int) (p : Nat) : -1 ≤ dgL l p ∧ dgL l p ≤ 15 := by
  unfold dgL; split
  · exact hexW_bd _
  · omega
/-- A sign with its digits, by places. -/
theorem spelt_dg (l : List Int) (k : Nat) (h : l.drop k = 37 :: l.drop (k + 1)) : spelt (l.drop k) = decide (dgL l (k + 1) ≠ -1 ∧ dgL l (k + 2) ≠ -1) := by
  unfold dgL
  by_cases h2 : k + 2 < l.length
  · have e : l.drop k = 37 :: l.getD (k + 1) 0 :: l.getD (k + 2) 0 :: l.drop (k + 3) := by
      rw [h, List.drop_eq_getElem_cons (show k + 1 < l.length by omega), List.drop_eq_getElem_cons (show k + 1 + 1 < l.length by omega)]
      simp [List.getD_eq_getElem?_getD, List.getElem?_eq_getElem (show k + 1 < l.length by omega), List.getElem?_eq_getElem h2]
    rw [e, spelt, if_pos (by omega), if_pos h2]
    simp
  · rw [if_neg h2, spelt_short (by rw [List.length_drop]; omega)]
    simp
end Go.Proofs.YtcjnhgcopdofhaaDoor
