/- The walks of the reference's Get, Same, Great. -/
import Derived.Test.YtcjnhgcopdofhaaDoorUrPrint
import Derived.Deep.QuietTactic
import Derived.BigQuiet
namespace Go.Proofs.YtcjnhgcopdofhaaDoor
open Go Go.RowKit

set_option maxRecDepth 100000 in
set_option maxHeartbeats 2000000 in
theorem refGet_any (A : Option Addr) (ps : PList) (n c : Nat) (name : ByteArray) (w : World) (hn : ps.length = n) (hnn : n ≤ 9223372036854775807) (hl : LiesP w A ps) :
    Calls Tryd.prog 17 #[.slice A n c, .string name] w fun e w' => e = .returned (.tuple #[.string (getB ps name).1, .bool (getB ps name).2]) ∧ w = w' := by
  have HN := Lib.hid hn
  have HL := Lib.hid hl
  clear hl hn
  go_enter Tryd.func17, Tryd.ntmps17
  go_wp2
  go_loop [6] (fun v => ∃ k : Nat, k ≤ n ∧ v = .int .i64 (k : Int) ∧ getB ps name = getB (ps.drop k) name) (fun v => n - (intOf v).toNat)
  case atStart => exact ⟨0, Nat.zero_le _, rfl, rfl⟩
  case round =>
    obtain ⟨k, hk, rfl, hrun⟩ := hrel
    have HRUN := Lib.hid hrun
    clear hrun
    by_cases hlt : k < n
    · have hkl : k < ps.length := by rw [HN.out]; exact hlt
      obtain ⟨b, o, rfl, _, c1, c2⟩ := HL.out.at hkl
      have hst := getB_drop hkl name
      have hi0 : (0 : Int) ≤ (k : Int) := by omega
      have hi1 : (k : Int) < (n : Int) := by omega
      obtain ⟨x, hx⟩ : ∃ x, x = ps[k].1 := ⟨_, rfl⟩
      obtain ⟨y, hy⟩ : ∃ y, y = ps[k].2 := ⟨_, rfl⟩
      rw [← hx] at c1 hst
      rw [← hy] at c2 hst
      clear hx hy hkl
      by_cases he : x = name
      · have e1 := beqS he
        have HR : Hid (getB ps name = (y, true)) := Lib.hid (by rw [HRUN.out, hst, if_pos he])
        clear he hst
        go_wp2
        go_ret2
        rw [HR.out]
        exact ⟨rfl, rfl⟩
      · have e1 := beqS_ne he
        have HR : Hid (getB ps name = getB (ps.drop (k + 1)) name) := Lib.hid (by rw [HRUN.out, hst, if_neg he])
        clear he hst
        go_wp2
        go_round
        case rel => exact ⟨k + 1, by omega, by go_num, HR.out⟩
        case measure => simp [intOf]; omega
    · obtain rfl : k = n := by omega
      have HR : Hid (getB ps name = (⟨#[]⟩, false)) := Lib.hid (by rw [HRUN.out, List.drop_of_length_le (by rw [HN.out]; exact Nat.le_refl _)]; rfl)
      have hi1 : ¬ (k : Int) < (k : Int) := by omega
      clear hlt
      go_wp2
      go_ret2
      rw [HR.out]
      exact ⟨rfl, rfl⟩

/-! ### Great -/
def greatP (ps : PList) : Bool := decide (100 < ps.length) || ps.any fun p => decide (3000 < p.1.size ∨ 3000 < p.2.size)
theorem greatP_no {ps : PList} (h : greatP ps = false) : ps.length ≤ 100 ∧ smallP ps := by
  unfold greatP at h
  rw [Bool.or_eq_false_iff] at h
  refine ⟨by have := of_decide_eq_false h.1; omega, fun p hp => ?_⟩
  have := List.any_eq_false.1 h.2 p hp
  simp at this; omega
def anyP (ps : PList) : Bool := ps.any fun p => decide (3000 < p.1.size ∨ 3000 < p.2.size)
theorem anyP_drop {ps : PList} {k : Nat} (h : k < ps.length) : anyP (ps.drop k) = (decide (3000 < ps[k].1.size ∨ 3000 < ps[k].2.size) || anyP (ps.drop (k + 1))) := by
  rw [List.drop_eq_getElem_cons h]; rfl
set_option maxRecDepth 100000 in
set_option maxHeartbeats 2000000 in
theorem refGreat_any (A : Option Addr) (ps : PList) (n c : Nat) (w : World) (hn : ps.length = n) (hnn : n ≤ 9223372036854775807) (hl : LiesP w A ps) :
    Calls Tryd.prog 13 #[.slice A n c] w fun e w' => e = .returned (.bool (greatP ps)) ∧ w = w' := by
  have HN := Lib.hid hn
  have HL := Lib.hid hl
  have HG : Hid (greatP ps = (decide (100 < n) || anyP ps)) := Lib.hid (by rw [greatP, hn]; rfl)
  clear hl hn
  by_cases hbig : 100 < n
  · have hb1 : (100 : Int) < (n : Int) := by omega
    have HR : Hid (greatP ps = true) := Lib.hid (by rw [HG.out, decide_eq_true hbig]; rfl)
    clear hbig
    go_enter Tryd.func13, Tryd.ntmps13
    go_wp2
    go_ret
    rw [HR.out]; exact ⟨rfl, rfl⟩
  · have hb1 : ¬ (100 : Int) < (n : Int) := by omega
    have HR0 : Hid (greatP ps = anyP ps) := Lib.hid (by rw [HG.out, decide_eq_false hbig]; rfl)
    go_enter Tryd.func13, Tryd.ntmps13
    go_wp2
    go_loop [3] (fun v => ∃ k : Nat, k ≤ n ∧ v = .int .i64 (k : Int) ∧ anyP ps = anyP (ps.drop k)) (fun v => n - (intOf v).toNat)
    case atStart => exact ⟨0, Nat.zero_le _, rfl, rfl⟩
    case round =>
      obtain ⟨k, hk, rfl, hrun⟩ := hrel
      have HRUN := Lib.hid hrun
      clear hrun
      by_cases hlt : k < n
      · have hkl : k < ps.length := by rw [HN.out]; exact hlt
        obtain ⟨b, o, rfl, _, c1, c2⟩ := HL.out.at hkl
        have hst := anyP_drop hkl
        have hi0 : (0 : Int) ≤ (k : Int) := by omega
        have hi1 : (k : Int) < (n : Int) := by omega
        obtain ⟨x, hx⟩ : ∃ x, x = ps[k].1 := ⟨_, rfl⟩
        obtain ⟨y, hy⟩ : ∃ y, y = ps[k].2 := ⟨_, rfl⟩
        rw [← hx] at c1 hst
        rw [← hy] at c2 hst
        clear hx hy hkl
        by_cases e1 : 3000 < x.size
        · have f1 : (3000 : Int) < (x.size : Int) := by omega
          have HR : Hid (greatP ps = true) := Lib.hid (by rw [HR0.out, HRUN.out, hst, decide_eq_true (Or.inl e1)]; rfl)
          clear hst e1
          go_wp2
          go_ret
          rw [HR.out]; exact ⟨rfl, rfl⟩
        · have f1 : ¬ (3000 : Int) < (x.size : Int) := by omega
          by_cases e2 : 3000 < y.size
          · have f2 : (3000 : Int) < (y.size : Int) := by omega
            have HR : Hid (greatP ps = true) := Lib.hid (by rw [HR0.out, HRUN.out, hst, decide_eq_true (Or.inr e2)]; rfl)
            clear hst e1 e2
            go_wp2
            go_ret
            rw [HR.out]; exact ⟨rfl, rfl⟩
          · have f2 : ¬ (3000 : Int) < (y.size : Int) := by omega
            have HR : Hid (anyP ps = anyP (ps.drop (k + 1))) := Lib.hid (by rw [HRUN.out, hst, decide_eq_false (by omega)]; rfl)
            clear hst e1 e2
            go_wp2
            go_round
            case rel => exact ⟨k + 1, by omega, by go_num, HR.out⟩
            case measure => simp [intOf]; omega
      · obtain rfl : k = n := by omega
        have HR : Hid (greatP ps = false) := Lib.hid (by rw [HR0.out, HRUN.out, List.drop_of_length_le (by rw [HN.out]; exact Nat.le_refl _)]; rfl)
        have hi1 : ¬ (k : Int) < (k : Int) := by omega
        clear hlt
        go_wp2
        go_ret
        rw [HR.out]; exact ⟨rfl, rfl⟩

/-! ### Same -/
set_option maxRecDepth 100000 in
set_option maxHeartbeats 2000000 in
theorem refSame_len (A B : Option Addr) (n m c d : Nat) (w : World) (h : n ≠ m) :
    Calls Tryd.prog 12 #[.slice A n c, .slice B m d] w fun e w' => e = .returned (.bool false) ∧ w = w' := by
  have e1 : ((n : Int) != (m : Int)) = true := by rw [bne_iff_ne]; omega
  go_enter Tryd.func12, Tryd.ntmps12
  go_wp2
  go_ret
  exact ⟨rfl, rfl⟩
set_option maxRecDepth 100000 in
set_option maxHeartbeats 2000000 in
theorem refSame_same (A B : Option Addr) (ps : PList) (n c d : Nat) (w : World) (hn : ps.length = n) (hnn : n ≤ 9223372036854775807) (hl : LiesP w A ps) (hl2 : LiesP w B ps) :
    Calls Tryd.prog 12 #[.slice A n c, .slice B n d] w fun e w' => e = .returned (.bool true) ∧ Below w.heap.size w w' := by
  have HN := Lib.hid hn
  have HL := Lib.hid hl
  have HL2 := Lib.hid hl2
  have e1 : ((n : Int) != (n : Int)) = false := by simp
  clear hl hl2 hn
  go_enter Tryd.func12, Tryd.ntmps12
  go_wp2
  go_loopw [5] (fun v wr => ∃ k : Nat, k ≤ n ∧ v = .int .i64 (k : Int) ∧ Below w.heap.size w wr) (fun v _ => n - (intOf v).toNat)
  case atStart => exact ⟨0, Nat.zero_le _, rfl, Below.refl _ _⟩
  case round =>
    obtain ⟨k, hk, rfl, hbel⟩ := hrel
    have HBE := Lib.hid hbel
    clear hbel
    by_cases hlt : k < n
    · have hkl : k < ps.length := by rw [HN.out]; exact hlt
      obtain ⟨b, o, rfl, _, c1, c2⟩ := (HL.out.below HBE.out).at hkl
      obtain ⟨b2, o2, rfl, _, d1, d2⟩ := (HL2.out.below HBE.out).at hkl
      have hi0 : (0 : Int) ≤ (k : Int) := by omega
      have hi1 : (k : Int) < (n : Int) := by omega
      obtain ⟨x, hx⟩ : ∃ x, x = ps[k].1 := ⟨_, rfl⟩
      obtain ⟨y, hy⟩ : ∃ y, y = ps[k].2 := ⟨_, rfl⟩
      rw [← hx] at c1 d1
      rw [← hy] at c2 d2
      clear hx hy hkl
      go_wp2_with fail
      go_quiet (fail)
      go_wp2
      exact ⟨⟨k + 1, by omega, by go_num, below_drewN HBE.out _⟩, by simp [intOf]; omega⟩
    · obtain rfl : k = n := by omega
      have hi1 : ¬ (k : Int) < (k : Int) := by omega
      clear hlt
      go_wp2
      go_ret
      exact ⟨rfl, HBE.out⟩
end Go.Proofs.YtcjnhgcopdofhaaDoor
