/- Parameters in memory; the walks of Get (the program's and the reference's), isUtf, right, mayFollow. -/
import Derived.Test.YtcjnhgcopdofhaaDoorUrParts
import Derived.Test.YtcjnhgcopdofhaaDoorUrEsc
import Derived.Test.YtcjnhgcopdofhaaDoorUtfCheck
namespace Go.Proofs.YtcjnhgcopdofhaaDoor
open Go Go.RowKit

theorem beqS {a b : ByteArray} (h : a = b) : (a.toList == b.toList) = true := by rw [eq_toList]; exact decide_eq_true h
theorem beqS_ne {a b : ByteArray} (h : a ≠ b) : (a.toList == b.toList) = false := by rw [eq_toList]; exact decide_eq_false h
/-- A slice of parameters. -/
def LiesP (W : World) (A : Option Addr) (ps : PList) : Prop :=
  0 < ps.length → ∃ b o, A = some ⟨b, o, none⟩ ∧ b < W.heap.size ∧ ∀ i p, ps[i]? = some p → W.cell? ⟨b, o + i * 2, none⟩ = some (.string p.1) ∧ W.cell? ⟨b, o + i * 2 + 1, none⟩ = some (.string p.2)
theorem LiesP.below {W W' : World} {A : Option Addr} {ps : PList} (h : LiesP W A ps) (hb : Below W.heap.size W W') : LiesP W' A ps := fun hp => by
  obtain ⟨b, o, e, hlt, hc⟩ := h hp
  refine ⟨b, o, e, Nat.lt_of_lt_of_le hlt hb.size, fun i p hi => ?_⟩
  obtain ⟨h1, h2⟩ := hc i p hi
  exact ⟨(hb.cell (p := ⟨b, o + i * 2, none⟩) hlt).trans h1, (hb.cell (p := ⟨b, o + i * 2 + 1, none⟩) hlt).trans h2⟩
theorem LiesP.take {W : World} {A : Option Addr} {ps : PList} (h : LiesP W A ps) (n : Nat) : LiesP W A (ps.take n) := fun hp => by
  simp only [List.length_take] at hp
  obtain ⟨b, o, e, hlt, hc⟩ := h (by omega)
  refine ⟨b, o, e, hlt, fun i p hi => hc i p ?_⟩
  rw [List.getElem?_take] at hi
  split at hi
  · exact hi
  · simp at hi
theorem LiesP.nil (W : World) (A : Option Addr) : LiesP W A [] := fun h => absurd h (by simp)
theorem LiesP.at {W : World} {A : Option Addr} {ps : PList} (h : LiesP W A ps) {k : Nat} (hk : k < ps.length) : ∃ b o, A = some ⟨b, o, none⟩ ∧ b < W.heap.size ∧ W.cell? ⟨b, o + k * 2, none⟩ = some (.string ps[k].1) ∧ W.cell? ⟨b, o + k * 2 + 1, none⟩ = some (.string ps[k].2) := by
  obtain ⟨b, o, e, hlt, hc⟩ := h (by omega)
  obtain ⟨h1, h2⟩ := hc k ps[k] (List.getElem?_eq_getElem hk)
  exact ⟨b, o, e, hlt, h1, h2⟩
theorem getB_drop {ps : PList} {k : Nat} (h : k < ps.length) (name : ByteArray) : getB (ps.drop k) name = if ps[k].1 = name then (ps[k].2, true) else getB (ps.drop (k + 1)) name := by
  rw [List.drop_eq_getElem_cons h, getB]

set_option maxRecDepth 100000 in
set_option maxHeartbeats 2000000 in
theorem get_any (A : Option Addr) (ps : PList) (n c : Nat) (name : ByteArray) (w : World) (hn : ps.length = n) (hnn : n ≤ 9223372036854775807) (hl : LiesP w A ps) :
    Calls Tryd.prog 16 #[.slice A n c, .string name] w fun e w' => e = .returned (.tuple #[.string (getB ps name).1, .bool (getB ps name).2]) ∧ Below w.heap.size w w' := by
  have HN := Lib.hid hn
  have HL := Lib.hid hl
  clear hl hn
  go_enter Tryd.func16, Tryd.ntmps16
  go_wp2
  go_loopw [10] (fun v wr => ∃ k : Nat, k ≤ n ∧ v = .int .i64 (k : Int) ∧ getB ps name = getB (ps.drop k) name ∧ Below w.heap.size w wr) (fun v _ => n - (intOf v).toNat)
  case atStart => exact ⟨0, Nat.zero_le _, rfl, rfl, Below.refl _ _⟩
  case round =>
    obtain ⟨k, hk, rfl, hrun, hbel⟩ := hrel
    have HRUN := Lib.hid hrun
    have HBE := Lib.hid hbel
    clear hrun hbel
    by_cases hlt : k < n
    · have hkl : k < ps.length := by rw [HN.out]; exact hlt
      obtain ⟨b, o, rfl, _, c1, c2⟩ := (HL.out.below HBE.out).at hkl
      have hst := getB_drop hkl name
      have hi0 : (0 : Int) ≤ (k : Int) := by omega
      have hi1 : (k : Int) < (n : Int) := by omega
      have HK : Hid (Below w.heap.size w (wr.alloc (.cells #[.string ps[k].1, .string ps[k].2] 45))) := Lib.hid (HBE.out.alloc HBE.out.size _)
      obtain ⟨x, hx⟩ : ∃ x, x = ps[k].1 := ⟨_, rfl⟩
      obtain ⟨y, hy⟩ : ∃ y, y = ps[k].2 := ⟨_, rfl⟩
      rw [← hx] at c1 hst HK
      rw [← hy] at c2 hst HK
      clear hx hy hkl
      by_cases he : x = name
      · have e1 := beqS he
        have HR : Hid (getB ps name = (y, true)) := Lib.hid (by rw [HRUN.out, hst, if_pos he])
        clear he hst
        go_wp2
        go_ret2
        rw [HR.out]
        exact ⟨rfl, HK.out⟩
      · have e1 := beqS_ne he
        have HR : Hid (getB ps name = getB (ps.drop (k + 1)) name) := Lib.hid (by rw [HRUN.out, hst, if_neg he])
        clear he hst
        go_wp2
        go_roundw
        case rel => exact ⟨k + 1, by omega, by go_num, HR.out, HK.out⟩
        case measure => simp [intOf]; omega
    · obtain rfl : k = n := by omega
      have HR : Hid (getB ps name = (⟨#[]⟩, false)) := Lib.hid (by rw [HRUN.out, List.drop_of_length_le (by rw [HN.out]; exact Nat.le_refl _)]; rfl)
      have hi1 : ¬ (k : Int) < (k : Int) := by omega
      clear hlt
      go_wp2
      go_ret2
      rw [HR.out]
      exact ⟨rfl, HBE.out⟩

/-! ### isUtf, right -/
def isU (s : ByteArray) : Bool := decide (badU (strL s) = (strL s).length)
set_option maxRecDepth 100000 in
set_option maxHeartbeats 1000000 in
theorem isUtf_any (s : ByteArray) (w : World) (hm : Marks w) (hs : s.size ≤ 1000000000) :
    Calls Tryd.prog 44 #[.string s] w fun e w' => e = .returned (.bool (isU s)) ∧ Below w.heap.size w w' := by
  have HM := Lib.hid hm
  have hconv := fun (W : World) => Lib.run_convert_string_bytes (P := Tryd.prog) W 9 62 5 s Tryd.underlying9 Tryd.underlying62 Tryd.underlying5
  have HCK := Lib.hid (fun c : Nat => check_any _ (strL s) s.size c _ (hm.below (belowBytes w 5 s)) (length_strL s) (by omega) (strL_bd s) (liesBytes w 5 s))
  have HBB := Lib.hid (belowBytes w 5 s)
  clear hm
  by_cases hu : badU (strL s) = (strL s).length
  · have HR : Hid (isU s = true) := Lib.hid (decide_eq_true hu)
    have HCK2 := Lib.hid (fun c => ((HCK.out c).mono (R' := fun e w' => e = .returned .nilIface ∧ Below w.heap.size w w') fun e w' ht => by
      rcases ht with ⟨_, h1, h2⟩ | ⟨h1, _⟩
      · exact ⟨h1, HBB.out.trans (h2.mono HBB.out.size)⟩
      · exact absurd hu h1))
    clear hu HCK
    go_enter Tryd.func44, Tryd.ntmps44
    go_wp2_with (go_at_call 58; refine (HCK2.out _).mono ?_; rintro e w1 ⟨rfl, hb⟩; have HF := Lib.hid hb; clear hb)
    go_ret
    rw [HR.out]; exact ⟨rfl, HF.out⟩
  · have HR : Hid (isU s = false) := Lib.hid (decide_eq_false hu)
    have HCK2 := Lib.hid (fun c => ((HCK.out c).mono (R' := fun e w' => ∃ b, e = .returned (.iface 55 (.pointer (some ⟨b, 0, none⟩))) ∧ Below w.heap.size w w') fun e w' ht => by
      rcases ht with ⟨h1, _⟩ | ⟨_, b, h1, _, _, _, h2⟩
      · exact absurd h1 hu
      · exact ⟨b, h1, HBB.out.trans (h2.mono HBB.out.size)⟩))
    clear hu HCK
    go_enter Tryd.func44, Tryd.ntmps44
    go_wp2_with (go_at_call 58; refine (HCK2.out _).mono ?_; rintro e w1 ⟨b, rfl, hb⟩; have HF := Lib.hid hb; clear hb)
    go_ret
    rw [HR.out]; exact ⟨rfl, HF.out⟩
theorem rightP_eq (a b : ByteArray) : rightP (a, b) = (!decide (a = ⟨#[]⟩) && (isU a && isU b)) := by
  unfold rightP isU
  rw [Bool.eq_iff_iff]
  simp
set_option maxRecDepth 100000 in
set_option maxHeartbeats 1000000 in
theorem right_any (a b : ByteArray) (w : World) (hm : Marks w) (ha : a.size ≤ 1000000000) (hb : b.size ≤ 1000000000) :
    Calls Tryd.prog 27 #[.agg #[.string a, .string b]] w fun e w' => e = .returned (.bool (rightP (a, b))) ∧ Below w.heap.size w w' := by
  have HEQ := Lib.hid (rightP_eq a b)
  have HB0 := Lib.hid (belowAlloc w (.cells #[.string a, .string b] 45))
  have HA := Lib.hid (isUtf_any a (w.alloc (.cells #[.string a, .string b] 45)) (hm.below (belowAlloc _ _)) ha)
  have HBU := Lib.hid (fun (W : World) (hW : Below w.heap.size w W) => isUtf_any b W (hm.below hW) hb)
  clear hm
  by_cases he : a = ⟨#[]⟩
  · subst he
    have HR : Hid (rightP (⟨#[]⟩, b) = false) := Lib.hid (by rw [HEQ.out]; simp)
    clear HA HBU
    go_enter Tryd.func27, Tryd.ntmps27
    go_wp2
    go_ret
    rw [HR.out]; exact ⟨rfl, HB0.out⟩
  · have hpos : 0 < a.size := Nat.pos_of_ne_zero fun h0 => he (by
      cases a with | mk d => cases d with | mk l => cases l with | nil => rfl | cons x r => simp [ByteArray.size] at h0)
    have e1 := notEmpty hpos
    have e2 : (a.toList == []) = false := by
      rw [beq_eq_false_iff_ne]; intro h; rw [h] at e1; simp at e1
    have e3 : ¬ a.toList = [] := by intro h; rw [h] at e1; simp at e1
    have HR : Hid (rightP (a, b) = (isU a && isU b)) := Lib.hid (by rw [HEQ.out]; simp [he])
    clear he
    cases hua : isU a with
    | false =>
      rw [hua] at HA HR
      rw [Bool.false_and] at HR
      clear hua HBU
      go_enter Tryd.func27, Tryd.ntmps27
      go_wp2_with (go_at_call 44; (with_reducible refine HA.out.mono ?_); rintro e w1 ⟨rfl, hb1⟩; have HB1 := Lib.hid (HB0.out.trans (hb1.mono HB0.out.size)); clear hb1)
      go_ret
      rw [HR.out]; exact ⟨rfl, HB1.out⟩
    | true =>
      rw [hua] at HA HR
      rw [Bool.true_and] at HR
      clear hua
      obtain ⟨ub, hub⟩ : ∃ u, u = isU b := ⟨_, rfl⟩
      rw [← hub] at HBU HR
      clear hub
      go_enter Tryd.func27, Tryd.ntmps27
      go_wp2_with (first
        | (go_at_call 44; (with_reducible refine HA.out.mono ?_); rintro e w1 ⟨rfl, hb1⟩; have hc1 := hb1.cell (p := ⟨w.heap.size, 1, none⟩) (by simp); have HB1 := Lib.hid (HB0.out.trans (hb1.mono HB0.out.size)); clear hb1)
        | (go_at_call 44; (with_reducible refine (HBU.out _ HB1.out).mono ?_); rintro e w2 ⟨rfl, hb2⟩; have HB2 := Lib.hid (HB1.out.trans (hb2.mono HB1.out.size)); clear hb2))
      go_ret
      rw [HR.out]; exact ⟨rfl, HB2.out⟩
end Go.Proofs.YtcjnhgcopdofhaaDoor
